/- The document's Come. -/
import Derived.Test.YtmnlbheicedloabDoorWiRef
namespace Go.Proofs.YtmnlbheicedloabDoor
open Go.ChangeShapes Go.WideShapes Go.ChangeAt Go.RowKit
set_option linter.unusedVariables false

theorem EvRow.src {w : World} {B : Nat} {a : Option Addr} {m c : Nat} {L : List (Int × Int)} (h : EvRow w B (.slice a m c) L) (hm : m = L.length) : Src Tryd.prog 2 26 (.slice a m c) m (L.flatMap encP) w := by
  subst hm
  have hone : ∀ u ∈ L.flatMap encP, u.oneCell' = true := by
    intro u hu
    obtain ⟨q, _, hq⟩ := List.mem_flatMap.1 hu
    simp only [encP, List.mem_cons, List.not_mem_nil, or_false] at hq
    rcases hq with rfl | rfl <;> rfl
  rcases h.row.2 with ⟨h1, h2⟩ | ⟨gg, cap, cur, hv, hB, hg, _⟩
  · have hp : L = [] := List.eq_nil_of_length_eq_zero h2
    subst hp
    simp only [Value.slice.injEq] at h1
    obtain ⟨rfl, _, rfl⟩ := h1
    exact Src.ofNil w Tryd.underlying26 0
  · have hc := h.row.cells (g := gg) (by rw [hv]; rfl)
    simp only [Value.slice.injEq] at hv
    obtain ⟨rfl, _, rfl⟩ := hv
    exact Src.ofSlice _ Tryd.underlying26 _ _ _ _ h.row.1 hc hone
theorem src_E2 (w : World) (q : Int × Int) (x : Nat) (hx : x = w.heap.size) :
    Src Tryd.prog 2 26 (.slice (some ⟨x, 0, none⟩) 1 1) 1 (encP q) (w.alloc (.cells #[.int .i64 q.1, .int .i64 q.2] 30)) :=
  Src.ofSlice _ Tryd.underlying26 _ 1 1 _ rfl (fun j u hu => by
    subst hx
    have := World.news_of_block (cs := #[.int .i64 q.1, .int .i64 q.2]) (t := 30) (fr := (0, 0)) (heap_alloc_new w _) j u (by simpa [encP] using hu)
    exact this) (by simp [encP, Value.oneCell'])

theorem rcome_bad (v : Value) (p n : Int) (w : World) (h : ¬ EvOk p n) :
    Calls Tryd.prog 5 #[v, .agg #[.int .i64 p, .int .i64 n]] w fun e w' => e = .returned (.tuple #[v, .int .i64 0, .int .i64 1]) ∧ Below w.heap.size w w' := by
  have hor : p < 0 ∨ (¬ p < 0 ∧ 31 < p) ∨ (¬ p < 0 ∧ ¬ 31 < p ∧ n < 1) ∨ (¬ p < 0 ∧ ¬ 31 < p ∧ ¬ n < 1 ∧ 1073741824 < n) := by unfold EvOk at h; omega
  clear h
  rcases hor with h1 | ⟨h1, h2⟩ | ⟨h1, h2, h3⟩ | ⟨h1, h2, h3, h4⟩
  all_goals
    go_enter Tryd.func5, Tryd.ntmps5
    go_wp2
    go_ret3
    exact ⟨rfl, below_oneW _ _⟩

/-- The box of the event, and what lay below it. -/
structure EvBox (w wr : World) (p n : Int) : Prop where
  blk : wr.heap[w.heap.size]? = some (.cells #[.int .i64 p, .int .i64 n] 30 (0, 0))
  bel : Below w.heap.size w wr
theorem EvBox.below {w wr w' : World} {p n : Int} (h : EvBox w wr p n) (hb : Below wr.heap.size wr w') : EvBox w w' p n :=
  ⟨(hb.block _ (lt_of_blockW h.blk)).trans h.blk, h.bel.trans (hb.mono h.bel.size)⟩
theorem EvBox.drew {w wr : World} {p n : Int} (h : EvBox w wr p n) : EvBox w wr.drew p n := h.below ⟨rfl, rfl, rfl, Nat.le_refl _, fun _ _ => rfl⟩
theorem EvBox.alloc {w wr : World} {p n : Int} (h : EvBox w wr p n) (o : Obj) : EvBox w (wr.alloc o) p n := h.below (below_oneW _ _)
theorem EvBox.c0 {w wr : World} {p n : Int} (h : EvBox w wr p n) : wr.cell? ⟨w.heap.size, 0, none⟩ = some (.int .i64 p) := by simp [World.cell?, h.blk]
theorem EvBox.c1 {w wr : World} {p n : Int} (h : EvBox w wr p n) : wr.cell? ⟨w.heap.size, 1, none⟩ = some (.int .i64 n) := by simp [World.cell?, h.blk]

set_option maxRecDepth 100000 in
set_option maxHeartbeats 4000000 in
theorem rcome_any (B : Nat) (a : Option Addr) (m c : Nat) (L : List (Int × Int)) (p n : Int) (w : World) (h : EvRow w B (.slice a m c) L) (hm : m = L.length) (hL : m < 100) (hn : EvOk p n) (hw : WOk L) (hB : B ≤ w.heap.size) :
    Calls Tryd.prog 5 #[.slice a m c, .agg #[.int .i64 p, .int .i64 n]] w fun e w' =>
      ∃ a' c', e = .returned (.tuple #[.slice a' (comeL L p n).length c', .int .i64 (whatL L p n), .int .i64 0]) ∧ EvRow w' B (.slice a' (comeL L p n).length c') (comeL L p n) ∧ Below w.heap.size w w' ∧ (∀ k, (Value.slice a' (comeL L p n).length c').ownBlock = some k → (Value.slice a m c).ownBlock = some k ∨ w.heap.size ≤ k) := by
  obtain ⟨i0, hi, hz0, hz1, hz2⟩ := winfo Tryd.infoE2
  have HX : Hid (EvRow w B (.slice a m c) L) := h
  have HM : Hid (m = L.length) := hm
  obtain ⟨h1, h2, h3, h4⟩ := hn
  have q1 : ¬ p < 0 := by omega
  have q2 : ¬ 31 < p := by omega
  have q3 : ¬ n < 1 := by omega
  have q4 : ¬ 1073741824 < n := by omega
  have l1 := lastL_nonneg L p
  have l2 := lastL_le hw p
  have hlast : ∀ W, Below w.heap.size w W → Calls Tryd.prog 9 #[.slice a m c, .int .i64 p] W fun e w' => e = .returned (.int .i64 (lastL L p)) ∧ Below W.heap.size W w' := fun W hb => by
    have := rlast_any B a c L p W (by rw [← hm]; exact h.below hb)
    rw [← hm] at this
    exact this
  obtain ⟨l, hl⟩ : ∃ l, l = lastL L p := ⟨_, rfl⟩
  rw [← hl] at l1 l2 hlast
  have HLS : Hid _ := hlast
  have HL : Hid (l = lastL L p) := hl
  have hbox : EvBox w (w.alloc (.cells #[.int .i64 p, .int .i64 n] 30)) p n := ⟨heap_alloc_new w _, below_oneW _ _⟩
  have HBX : Hid _ := hbox
  clear h hm hl hlast hbox
  go_enter Tryd.func5, Tryd.ntmps5
  have hwr : IntKind.i64.wrap (l - n) = l - n := IntWalk.i64_in _ (by omega)
  go_upto_region 3 with fail
  go_cut [36] (fun v wx => v = .bool (decide (64 ≤ l - n)) ∧ Hid (EvBox w wx p n))
  case first =>
    go_region_with ((go_at_call 9; refine Calls.mono (HLS.out _ HBX.out.drew.bel) ?_; rintro e w1 ⟨rfl, hb1⟩; have H1 : Hid (EvBox w w1 p n) := HBX.out.drew.below hb1; have y0 := H1.out.c0; have y1 := H1.out.c1; have yl := lt_of_blockW H1.out.blk))
    all_goals (try go_wp2_with fail)
    all_goals go_meet
    all_goals exact ⟨rfl, H1⟩
  case rest =>
    obtain ⟨rfl, H1⟩ := hcut
    rename World => w1
    by_cases hst : 64 ≤ l - n
    · have e1 : whatL L p n = 3 := by unfold whatL; rw [← HL.out, if_pos hst]
      have e2 : comeL L p n = L := comeL_not (by omega)
      have hd : decide (64 ≤ l - n) = true := by simpa using hst
      rw [hd]
      have E1 : Hid _ := e1
      have E2 : Hid _ := e2
      clear e1 e2
      go_wp2
      go_ret3
      rw [E1.out, E2.out, ← HM.out]
      exact ⟨a, c, rfl, HX.out.below H1.out.bel, H1.out.bel, fun k hk => .inl hk⟩
    · have hd : decide (64 ≤ l - n) = false := by simpa using hst
      have HW : Hid (¬ 64 ≤ lastL L p - n) := by rw [← HL.out]; exact hst
      rw [hd]
      clear hd hst
      have k0 := H1.out.c0
      have k1 := H1.out.c1
      go_wp2
      go_loopw [40] (fun y wr => ∃ j : Nat, y = .int .i64 j ∧ j ≤ m ∧ Hid (EvBox w wr p n ∧ (p, n) ∉ L.take j)) (fun y _ => m - (intOf y).toNat)
      case atStart => exact ⟨0, rfl, Nat.zero_le _, (⟨H1.out, by simp⟩ : EvBox _ _ _ _ ∧ _)⟩
      case round =>
        obtain ⟨j, rfl, hj, H2⟩ := hrel
        rename World => w2
        have c0 := H2.out.1.c0
        have c1 := H2.out.1.c1
        have cl := lt_of_blockW H2.out.1.blk
        clear k0 k1
        by_cases hlt : j < m
        · obtain ⟨bb, ha, hbb, r0, r1⟩ := (HX.out.below H2.out.1.bel).at (j := j) (by rw [← HM.out]; exact hlt)
          subst ha
          have hjL : j < L.length := by rw [← HM.out]; exact hlt
          have hgd : L.getD j (0, 0) = L[j] := by rw [List.getD_eq_getElem?_getD, List.getElem?_eq_getElem hjL]; rfl
          have hmem : L.getD j (0, 0) ∈ L := by rw [hgd]; exact List.getElem_mem _
          have htk : ∀ q, q ∈ L.take (j + 1) ↔ q ∈ L.take j ∨ q = L.getD j (0, 0) := fun q => by
            rw [List.take_succ_eq_append_getElem hjL, hgd, List.mem_append, List.mem_singleton]
          obtain ⟨⟨x0, x1⟩, hx⟩ : ∃ x, x = L.getD j (0, 0) := ⟨_, rfl⟩
          rw [← hx] at r0 r1 hmem
          have HT : Hid (∀ q, q ∈ L.take (j + 1) ↔ q ∈ L.take j ∨ q = (x0, x1)) := fun q => by rw [hx]; exact htk q
          simp only at r0 r1
          have hj0 : (0 : Int) ≤ (j : Int) := Int.natCast_nonneg _
          have hj1 : (j : Int) < (m : Int) := by omega
          have HMm : Hid ((x0, x1) ∈ L) := hmem
          clear hx htk hgd hmem hjL
          by_cases e0 : x0 = p
          · by_cases e1 : x1 = n
            · subst e0 e1
              have e1 : whatL L x0 x1 = 2 := by unfold whatL; rw [if_neg (by have := HW.out; omega), if_pos HMm.out]
              have e2 : comeL L x0 x1 = L := comeL_not (by omega)
              have E1 : Hid _ := e1
              have E2 : Hid _ := e2
              clear e1 e2
              go_wp2
              go_ret3
              rw [E1.out, E2.out, ← HM.out]
              exact ⟨_, c, rfl, HX.out.below (H2.out.1.alloc _).bel, (H2.out.1.alloc _).bel, fun k hk => .inl hk⟩
            · have e1' : (x1 == n) = false := by simpa using e1
              have HN : Hid ((p, n) ∉ L.take (j + 1)) := fun q => by
                rcases (HT.out _).1 q with q | q
                · exact H2.out.2 q
                · simp at q; exact e1 q.2.symm
              subst e0
              clear e1
              go_wp2
              go_roundw
              case rel => exact ⟨j + 1, by go_num, by omega, (⟨H2.out.1.alloc _, HN.out⟩ : EvBox _ _ _ _ ∧ _)⟩
              case measure => simp [intOf]; omega
          · have e0' : (x0 == p) = false := by simpa using e0
            have HN : Hid ((p, n) ∉ L.take (j + 1)) := fun q => by
              rcases (HT.out _).1 q with q | q
              · exact H2.out.2 q
              · simp at q; exact e0 q.1.symm
            clear e0
            go_wp2
            go_roundw
            case rel => exact ⟨j + 1, by go_num, by omega, (⟨H2.out.1.alloc _, HN.out⟩ : EvBox _ _ _ _ ∧ _)⟩
            case measure => simp [intOf]; omega
        · have hj1 : ¬ (j : Int) < (m : Int) := by omega
          obtain rfl : j = m := by omega
          have hnot : (p, n) ∉ L := by have := H2.out.2; rwa [HM.out, List.take_length] at this
          have e1 : whatL L p n = 1 := by unfold whatL; rw [if_neg (by have := HW.out; omega), if_neg hnot]
          have e2 : comeL L p n = L ++ [(p, n)] := comeL_new e1
          have E1 : Hid _ := e1
          have E2 : Hid _ := e2
          have HE : Hid ((L ++ [(p, n)]).length = j + 1) := by rw [HM.out]; exact List.length_append
          clear e1 e2 hnot
          have HR : Hid (EvRow w2 B (.slice a j c) L) := HX.out.below H2.out.1.bel
          have HO : Hid ((w2.alloc (.cells #[] 30)).ownsRow w2.heap.size 30 2 (.slice (some ⟨w2.heap.size, 0, none⟩) 0 0) 0 []) :=
            ⟨rfl, .inr ⟨w2.heap.size, 0, #[], rfl, Nat.le_refl _, heap_alloc_new w2 _, Nat.le_refl _, Nat.zero_le _, rfl, rfl⟩⟩
          go_wp2_with (at_builtin; refine wpList_own_append2 _ rfl _ _ 26 26 rfl w2.heap.size 30 i0 _ 16 Tryd.underlying26 hi hz0 hz1 hz2 rfl _ 0 [] rfl HO.out _ j (L.flatMap encP) rfl ((HR.out.below (below_oneW _ _)).src HM.out) ?c3 ?c4 ?c5 ?_)
          case c3 => unfold maxLen; omega
          case c4 => omega
          intro v' w3 ha3
          obtain ⟨a', c', hv'⟩ := ha3.shape
          subst hv'
          have b23 : Below w2.heap.size w2 w3 := (below_oneW w2 (.cells #[] 30)).trans ⟨ha3.grown.os, ha3.grown.tape, ha3.grown.output, ha3.grown.size, fun k hk => ha3.grown.block k (by simp; omega) (fun e => by simp [Value.ownBlock] at e; omega)⟩
          have H3 : Hid (EvBox w w3 p n) := H2.out.1.below b23
          have d0 := H3.out.c0
          have d1 := H3.out.c1
          have dl := lt_of_blockW H3.out.blk
          have R3 : Hid (w3.ownsRow w2.heap.size 30 2 (.slice a' j c') j (L.flatMap encP)) := ha3.row
          have B3 : Hid (Below w2.heap.size w2 w3) := b23
          clear c0 c1 cl ha3 b23 HO
          go_wp2_with (at_builtin; refine wpList_own_append2 _ rfl _ _ 26 26 rfl w2.heap.size 30 i0 _ 16 Tryd.underlying26 hi hz0 hz1 hz2 rfl _ j (L.flatMap encP) rfl (row_atR R3.out (fun k hk => Below.heap_alloc _ _ _ (R3.out.lt k hk).2)) _ 1 (encP (p, n)) rfl (src_E2 w3 (p, n) _ rfl) ?d3 ?d4 ?d5 ?_)
          case d3 => unfold maxLen; omega
          case d4 => omega
          case d5 => have := B3.out.size; simp; omega
          intro v' w4 ha4
          obtain ⟨a4, c4, hv'⟩ := ha4.shape
          subst hv'
          go_wp2
          go_ret3
          rw [E1.out, E2.out, HE.out]
          have hsz := H2.out.1.bel.size
          have b34 : Below w2.heap.size w3 w4 := ((below_oneW w3 (.cells #[.int .i64 p, .int .i64 n] 30)).mono B3.out.size).trans ⟨ha4.grown.os, ha4.grown.tape, ha4.grown.output, ha4.grown.size, fun k hk => ha4.grown.block k (by have := B3.out.size; simp; omega) (fun e => by have := (R3.out.lt k e.symm).1; omega)⟩
          refine ⟨a4, c4, rfl, ⟨?_, by rw [HE.out]; omega⟩, (H2.out.1.bel.trans (B3.out.mono hsz)).trans (b34.mono hsz), fun k hk => ?_⟩
          · have := ha4.row
            rw [HE.out]
            refine ⟨by rw [flat_len encP 2 lenP, HE.out], ?_⟩
            rcases this.2 with ⟨q1, q2⟩ | ⟨g, cap, cur, q1, q2, q3, q4, q5, q6, q7⟩
            · omega
            · exact .inr ⟨g, cap, cur, q1, by omega, q3, q4, q5, q6, by rw [q7]; simp⟩
          · have := (ha4.row.lt k hk).1
            exact .inr (by omega)
end Go.Proofs.YtmnlbheicedloabDoor
