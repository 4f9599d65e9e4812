/- Proved: for every schema, filter, event and place, ValueTighter answers true (a filter with a predicate more takes no event that the one without it doesn't take; in any order it takes the same).
  The frame is the guide's own shell (proof-skeleton.mjs) at this function; the walk and all ahead of it are mine. -/
import Derived.Test.YtlnmeofdpngofaaRows
import Derived.Test.YtlnmeofdpngofaaValTight
import Derived.Deep.RegionWith
import Derived.WalkKit
import Derived.WalkLawsBesides
import Derived.ProofKit
import Derived.OpenShut
import Derived.ShutString
import Derived.ChangeOld
import Derived.Below
namespace Go.Proofs.Ytlnmeofdpngofaa.valueTighter
open Go.ChangeShapes Go.WideShapes Go.ChangeAt Go.RowKit
open Go.ChangeMaps (open_string shut_string)
set_option linter.unusedVariables false

theorem own : ownKnob Try.prog.godebug = none := by kernel_rfl
theorem laidOut : laidOutB Try.prog = true := by kernel_rfl


theorem sz_cutV (t : List Vl) : ∀ i, i < ((t.take 6).map cutV).length → (((t.take 6).map cutV).getD i vl0).str.size ≤ maxLen := fun i hi => by
  have hi' : i < 6 ∧ i < t.length := by simp at hi; omega
  have e : ((t.take 6).map cutV).getD i vl0 = cutV t[i] := by simp [hi'.1, hi'.2]
  rw [e]
  have := cut_size t[i].str 50
  show (cut t[i].str 50).size ≤ maxLen
  unfold maxLen; omega
theorem sz_cutP (t : List Pd) : ∀ p ∈ (t.take 6).map cutP, p.str.size ≤ maxLen := fun p hp => by
  obtain ⟨q, _, rfl⟩ := List.mem_map.mp hp
  have := cut_size q.str 50
  show (cut q.str 50).size ≤ maxLen
  unfold maxLen; omega
theorem sz_sub {G ps : List Pd} (h : ∀ p ∈ G, p.str.size ≤ maxLen) (hs : ∀ p ∈ ps, p ∈ G) : ∀ i, i < ps.length → (ps.getD i pd0).str.size ≤ maxLen := fun i hi => h _ (hs _ (getD_mem' hi))
theorem below_drew (w : World) : Below w.heap.size w w.drew := ⟨rfl, rfl, rfl, Nat.le_refl _, fun _ _ => rfl⟩
theorem less_mem {G : List Pd} {i : Nat} : ∀ p ∈ G.take i ++ G.drop (i + 1), p ∈ G := fun p hp => by
  rcases List.mem_append.mp hp with h | h
  · exact List.mem_of_mem_take h
  · exact List.mem_of_mem_drop h
/-! ### STEP 1: the walk -/
set_option maxRecDepth 100000 in
set_option maxHeartbeats 2000000 in
theorem walk (a0 : Option Addr) (len0 cap0 : Nat) (t0 : List At) (a1 : Option Addr) (len1 cap1 : Nat) (t1 : List Pd) (a2 : Option Addr) (len2 cap2 : Nat) (t2 : List Vl) (s2 : ByteArray) (a3 : Int) (w : World) (w0 : InRow 4 At.cells At.ok at0 w a0 len0 t0) (w1 : InRow 5 Pd.cells Pd.ok pd0 w a1 len1 t1) (w2 : InRow 2 Vl.cells Vl.ok vl0 w a2 len2 t2) (z2 : s2.size ≤ maxLen) (w3 : (Lit.int .i64 a3).wf = true) :
    Calls Try.prog 3 #[.slice a0 len0 cap0, .slice a1 len1 cap1, .agg #[.slice a2 len2 cap2, .string s2], .int .i64 a3] w fun e w' => e = .returned (.bool true) ∧ Below w.heap.size w w' := by
  obtain ⟨L, hL⟩ : ∃ L, L = (t0.take 6).map cutA := ⟨_, rfl⟩
  obtain ⟨G, hG⟩ : ∃ G, G = (t1.take 6).map cutP := ⟨_, rfl⟩
  obtain ⟨V, hV⟩ : ∃ V, V = (t2.take 6).map cutV := ⟨_, rfl⟩
  obtain ⟨pay, hpay⟩ : ∃ pay, pay = cut s2 210 := ⟨_, rfl⟩
  have lL : L.length ≤ 6 := by rw [hL]; simp; omega
  have lG : G.length ≤ 6 := by rw [hG]; simp; omega
  have lV : V.length ≤ 6 := by rw [hV]; simp; omega
  have SG : Hid (∀ p ∈ G, p.str.size ≤ maxLen) := by rw [hG]; exact sz_cutP t1
  have SV : Hid (∀ i, i < V.length → (V.getD i vl0).str.size ≤ maxLen) := by rw [hV]; exact sz_cutV t2
  have SP : Hid (pay.size ≤ maxLen) := by
    have := cut_size s2 210
    show pay.size ≤ maxLen
    rw [hpay]; unfold maxLen; omega
  have hc1 := attrs_any a0 len0 cap0 t0 (w.alloc (.cells #[.slice a2 len2 cap2, .string s2] 28)) (w0.below (Nat.le_refl _) (below1 _ _))
  rw [← hL] at hc1
  have HV : Hid (V = (t2.take 6).map cutV) := hV
  have HY : Hid (pay = cut s2 210) := hpay
  have HG : Hid (G = (t1.take 6).map cutP) := hG
  clear hL hV hpay hG
  go_enter Try.func3, Try.ntmps3
  go_wp2_with fail
  refine hc1.mono ?_
  rintro e W1 ⟨v1, v2, rfl, R1⟩
  clear hc1
  have A1 : Hid (AtIn W1 v1 L) := AtIn.ofOwn R1.r1
  have bb := R1.bel
  have B1 : Hid (Below w.heap.size w W1) := (below1 _ _).trans (bb.mono (by simp))
  have y0 : W1.cell? ⟨w.heap.size, 0, none⟩ = some (.slice a2 len2 cap2) := (bb.cell (p := ⟨w.heap.size, 0, none⟩) (by simp)).trans (cell_at (j := 0) rfl (by simp))
  have y1 : W1.cell? ⟨w.heap.size, 1, none⟩ = some (.string s2) := (bb.cell (p := ⟨w.heap.size, 1, none⟩) (by simp)).trans (cell_at (j := 1) rfl (by simp))
  have yl : w.heap.size < W1.heap.size := by have := R1.le; simp at this; omega
  obtain ⟨av, cv, hv1⟩ := own_shape R1.r1
  subst hv1
  clear R1 bb
  have hc2 := ev_any a2 len2 cap2 s2 t2 W1 (w2.below (Nat.le_refl _) B1.out) z2
  rw [← HV.out, ← HY.out] at hc2
  go_wp2_with fail
  refine hc2.mono ?_
  rintro e W2 ⟨u1, u2, rfl, r1, _, _, b2⟩
  clear hc2
  have V2 : Hid (VlIn W2 u1 V) := VlIn.ofOwn r1
  have B2 : Hid (Below w.heap.size w W2) := B1.out.trans (b2.mono B1.out.size)
  have A2 : Hid (AtIn W2 (.slice av L.length cv) L) := A1.out.below b2
  obtain ⟨au, cu, hu1⟩ := own_shape r1
  subst hu1
  clear r1 b2 y0 y1 yl B1 A1
  obtain ⟨W3, hW3⟩ : ∃ W3, W3 = W2.alloc (.cells #[.slice au V.length cu, .string pay] 28) := ⟨_, rfl⟩
  have b3 : Below W2.heap.size W2 W3 := by rw [hW3]; exact below1 _ _
  have A3 : Hid (AtIn W3 (.slice av L.length cv) L) := A2.out.below b3
  have V3 : Hid (VlIn W3 (.slice au V.length cu) V) := V2.out.below b3
  have B3 : Hid (Below w.heap.size w W3) := B2.out.trans (b3.mono B2.out.size)
  have e0 : W3.cell? ⟨W2.heap.size, 0, none⟩ = some (.slice au V.length cu) := by rw [hW3]; exact cell_at (j := 0) rfl (by simp)
  have e1 : W3.cell? ⟨W2.heap.size, 1, none⟩ = some (.string pay) := by rw [hW3]; exact cell_at (j := 1) rfl (by simp)
  have el : W2.heap.size < W3.heap.size := by rw [hW3]; simp
  have hc3 := preds_any a1 len1 cap1 t1 W3 (w1.below (Nat.le_refl _) B3.out)
  rw [← HG.out] at hc3
  go_wp2_with fail
  rw [← hW3]
  clear hW3 b3 A2 V2 B2
  refine hc3.mono ?_
  rintro e W4 ⟨g1, g2, rfl, R4⟩
  clear hc3
  have b4 := R4.bel
  have A4 : Hid (AtIn W4 (.slice av L.length cv) L) := A3.out.below b4
  have V4 : Hid (VlIn W4 (.slice au V.length cu) V) := V3.out.below b4
  have P4 : Hid (PdIn W4 g1 G) := PdIn.ofOwn R4.r1
  have B4 : Hid (Below w.heap.size w W4) := B3.out.trans (b4.mono B3.out.size)
  have d0 := cell_grown e0 b4
  have d1 := cell_grown e1 b4
  have dl : W2.heap.size < W4.heap.size := by have := b4.size; omega
  obtain ⟨ag, cg, hg1⟩ := own_shape R4.r1
  subst hg1
  clear A3 V3 B3 b4 e0 e1 el R4
  by_cases g0 : a3 < 0
  case pos =>
    go_wp2_with fail
    refine (awake5_any _).mono ?_
    rintro e W5 ⟨rfl, b5⟩
    have B5 : Hid (Below w.heap.size w W5) := B4.out.trans (b5.mono B4.out.size)
    clear b5
    go_wp2
    go_ret
    exact ⟨rfl, B5.out⟩
  by_cases g1 : (G.length : Int) ≤ a3
  case pos =>
    go_wp2_with fail
    refine (awake5_any _).mono ?_
    rintro e W5 ⟨rfl, b5⟩
    have B5 : Hid (Below w.heap.size w W5) := B4.out.trans (b5.mono B4.out.size)
    clear b5
    go_wp2
    go_ret
    exact ⟨rfl, B5.out⟩
  by_cases g2 : (G.length : Int) < 2
  case pos =>
    go_wp2_with fail
    refine (awake5_any _).mono ?_
    rintro e W5 ⟨rfl, b5⟩
    have B5 : Hid (Below w.heap.size w W5) := B4.out.trans (b5.mono B4.out.size)
    clear b5
    go_wp2
    go_ret
    exact ⟨rfl, B5.out⟩
  obtain ⟨i, rfl⟩ : ∃ i : Nat, a3 = i := ⟨a3.toNat, by omega⟩
  have hi : i < G.length := by omega
  have hi0 : decide ((i : Int) < 0) = false := decide_eq_false g0
  have hi1 : decide ((G.length : Int) ≤ (i : Int)) = false := decide_eq_false g1
  go_wp2_with fail
  refine (filter_any _ _ L G _ A4.out P4.out (by omega) (by omega) (sz_sub SG.out (fun p hp => hp))).mono ?_
  rintro e W5 ⟨hE, b5⟩
  have A5 : Hid (AtIn W5 (.slice av L.length cv) L) := A4.out.below b5
  have V5 : Hid (VlIn W5 (.slice au V.length cu) V) := V4.out.below b5
  have P5 : Hid (PdIn W5 (.slice ag G.length cg) G) := P4.out.below b5
  have B5 : Hid (Below w.heap.size w W5) := B4.out.trans (b5.mono B4.out.size)
  have e0 := cell_grown d0 b5
  have e1 := cell_grown d1 b5
  have el : W2.heap.size < W5.heap.size := by have := b5.size; omega
  clear A4 V4 P4 B4 b5 d0 d1 dl
  rcases hE with ⟨rfl, hF⟩ | ⟨bb, nn, rfl, hF, _⟩
  case inr =>
    go_wp2_with fail
    refine (awake5_any _).mono ?_
    rintro e W6 ⟨rfl, b6⟩
    have B6 : Hid (Below w.heap.size w W6) := B5.out.trans (b6.mono B5.out.size)
    clear b6
    go_wp2
    go_ret
    exact ⟨rfl, B6.out⟩
  have HF : Hid (FilterOk L G) := hF
  clear hF
  obtain ⟨gg, rfl, hgg, hcg, _⟩ := P5.out.row i hi
  obtain ⟨i0, hii, hz0, hz1, hz2⟩ := info_parts Try.infoPd
  have hicg : i ≤ cg := by omega
  have hig : (i : Int) + 1 ≤ (G.length : Int) := by omega
  have hig' : i + 1 ≤ G.length := by omega
  have hicg' : i + 1 ≤ cg := by omega
  have O1 : Hid ((W5.alloc (.cells #[] 43)).drew.ownsRow W5.heap.size 43 5 (.slice (some ⟨W5.heap.size, 0, none⟩) 0 0) 0 []) := (World.ownsRow_made W5 #[] 0 (Nat.le_refl _) (Nat.zero_le _) rfl).drew
  have b6 : Below W5.heap.size W5 (W5.alloc (.cells #[] 43)).drew := (below1 _ _).trans ((below_drew _).mono (below1 _ _).size)
  have HB6 : Hid (Below W5.heap.size W5 (W5.alloc (.cells #[] 43)).drew) := b6
  have S1 : Hid (Src Try.prog 5 25 (.slice (some ⟨gg, 0, none⟩) i cg) i ((G.take i).flatMap Pd.cells) (W5.alloc (.cells #[] 43)).drew) := by
    have := src_part (P5.out.below b6) 0 i cg (by omega) ⟨gg, 0, none⟩ (fun _ => rfl)
    show Src _ _ _ _ _ _ _
    simpa using this
  clear b6
  have hwr : IntKind.i64.wrap ((i : Int) + 1) = (i : Int) + 1 := IntWalk.i64_in _ ⟨by omega, by omega⟩
  have hto : ((i : Int) + 1).toNat = i + 1 := by omega
  have hp0 : (0 : Int) ≤ (i : Int) + 1 := by omega
  obtain ⟨AD, hAD, hADm⟩ : ∃ AD, (if cg = i + 1 then some (⟨gg, 0, none⟩ : Addr) else some ⟨gg, (i + 1) * 5, none⟩) = some AD ∧ (0 < G.length - (i + 1) → AD = ⟨gg, (i + 1) * 5, none⟩) := by
    by_cases h : cg = i + 1
    · exact ⟨⟨gg, 0, none⟩, by rw [if_pos h], fun hh => by omega⟩
    · exact ⟨⟨gg, (i + 1) * 5, none⟩, by rw [if_neg h], fun _ => rfl⟩
  have HAD : Hid (0 < G.length - (i + 1) → AD = ⟨gg, (i + 1) * 5, none⟩) := hADm
  clear hADm
  go_wp2_with fail
  go_region_law (first
    | (refine step_own_src5 _ (by rfl) _ _ 25 25 (by rfl) W5.heap.size 43 i0 _ 56 Try.underlying25 hii hz0 hz1 hz2 rfl _ _ _ (by rfl) O1.out _ i _ (by rfl) S1.out (by unfold maxLen; omega) (by omega) (by simp) ?_
       intro va Wx ha
       have HBx : Hid (Below W5.heap.size W5 Wx ∧ W5.heap.size ≤ Wx.heap.size) := ⟨grown_below HB6.out HB6.out.size O1.out ha.grown, Nat.le_trans HB6.out.size ha.grown.size⟩
       have HAx : Hid (Wx.ownsRow W5.heap.size 43 5 va (0 + i) ([] ++ (G.take i).flatMap Pd.cells)) := ha.row
       have S2 : Hid (Src Try.prog 5 25 (.slice (some AD) (G.length - (i + 1)) (cg - (i + 1))) (G.length - (i + 1)) (((G.drop (i + 1)).take (G.length - (i + 1))).flatMap Pd.cells) Wx) := src_part (P5.out.below HBx.out.1) (i + 1) (G.length - (i + 1)) _ (by omega) AD HAD.out
       clear ha)
    | (refine step_own_src5 _ (by rfl) _ _ 25 25 (by rfl) W5.heap.size 43 i0 _ 56 Try.underlying25 hii hz0 hz1 hz2 rfl _ _ _ (by rfl) HAx.out _ (G.length - (i + 1)) _ (by rfl) S2.out (by unfold maxLen; omega) (by omega) HBx.out.2 ?_
       intro vb Wy hb))
  all_goals
    have QY : Hid (PdIn Wy vb (G.take i ++ G.drop (i + 1)) ∧ Below W5.heap.size W5 Wy) := by
      have hr := hb.row
      have e1 : (G.drop (i + 1)).take (G.length - (i + 1)) = G.drop (i + 1) := List.take_of_length_le (by simp)
      rw [e1, List.nil_append, ← List.flatMap_append] at hr
      have e2 : 0 + i + (G.length - (i + 1)) = (G.take i ++ G.drop (i + 1)).length := by simp; omega
      rw [e2] at hr
      exact ⟨PdIn.ofOwn hr, grown_below HBx.out.1 HBx.out.2 HAx.out hb.grown⟩
    obtain ⟨ab, cb, hvb⟩ := hb.shape
    subst hvb
    clear hb HAx S2 HBx
  have bY : Below W5.heap.size W5 Wy := QY.out.2
  have A6 : Hid (AtIn Wy (.slice av L.length cv) L ∧ VlIn Wy (.slice au V.length cu) V ∧ PdIn Wy (.slice (some ⟨gg, 0, none⟩) G.length cg) G ∧ PdIn Wy (.slice ab (0 + i + (G.length - (i + 1))) cb) (G.take i ++ G.drop (i + 1)) ∧ Below w.heap.size w Wy) :=
    ⟨A5.out.below bY, V5.out.below bY, P5.out.below bY, QY.out.1, B5.out.trans (bY.mono B5.out.size)⟩
  have d0 := cell_grown e0 bY
  have d1 := cell_grown e1 bY
  have dl : W2.heap.size < Wy.heap.size := by have := bY.size; omega
  clear bY e0 e1 el A5 V5 P5 B5 QY O1 S1 HB6 HAD
  have O2 : Hid ((Wy.alloc (.cells #[] 43)).ownsRow Wy.heap.size 43 5 (.slice (some ⟨Wy.heap.size, 0, none⟩) 0 0) 0 []) := World.ownsRow_made Wy #[] 0 (Nat.le_refl _) (Nat.zero_le _) rfl
  generalize 0 + i + (G.length - (i + 1)) = nl at A6
  go_wp2
  go_loopg [16, 17] G.length (fun kx s16 s17 wr => ∃ j : Nat, s17 = .int .i64 ((j : Int) - 1) ∧ j ≤ G.length ∧ kx = j ∧ (∃ a c, s16 = .slice a (G.length - j) c) ∧ Hid (wr.ownsRow Wy.heap.size 43 5 s16 (G.length - j) ((G.drop j).reverse.flatMap Pd.cells) ∧ Below Wy.heap.size Wy wr ∧ Wy.heap.size ≤ wr.heap.size))
  case atStart =>
    refine ⟨G.length, rfl, Nat.le_refl _, rfl, ⟨some ⟨Wy.heap.size, 0, none⟩, 0, by simp⟩, ?_⟩
    have h1 : G.length - G.length = 0 := by omega
    have h2 : (G.drop G.length).reverse.flatMap Pd.cells = [] := by simp
    rw [h1, h2]
    exact (⟨O2.out, below1 _ _, (below1 _ _).size⟩ : _ ∧ _ ∧ _)
  case round =>
    obtain ⟨j, rfl, hj, hkx, ⟨aj, cj, rfl⟩, R⟩ := hrel
    rcases Nat.eq_zero_or_pos j with h0 | h0
    · subst h0
      have hbr := R.out.2.1
      have E7 : Hid (AtIn wr (.slice av L.length cv) L ∧ VlIn wr (.slice au V.length cu) V ∧ PdIn wr (.slice (some ⟨gg, 0, none⟩) G.length cg) G ∧ PdIn wr (.slice ab nl cb) (G.take i ++ G.drop (i + 1)) ∧ PdIn wr (.slice aj (G.length - 0) cj) G.reverse ∧ Below w.heap.size w wr) := by
        have A := A6.out
        refine ⟨A.1.below hbr, A.2.1.below hbr, A.2.2.1.below hbr, A.2.2.2.1.below hbr, ?_, A.2.2.2.2.trans (hbr.mono A.2.2.2.2.size)⟩
        have hr := R.out.1
        have e : G.length - 0 = (G.drop 0).reverse.length := by simp
        rw [e] at hr ⊢
        simpa using PdIn.ofOwn hr
      have e0 := cell_grown d0 hbr
      have e1 := cell_grown d1 hbr
      have el : W2.heap.size < wr.heap.size := by have := hbr.size; omega
      clear hbr R d0 d1 dl O2 A6
      go_wp2_with fail
      refine (match_any _ _ _ L G V pay _ E7.out.1 E7.out.2.2.1 E7.out.2.1 (by omega) (by omega) (by omega) SP.out (sz_sub SG.out (fun p hp => hp)) SV.out).mono ?_
      rintro e W8 ⟨⟨q, rfl, hq⟩, b8⟩
      have HQ : Hid (q = true ↔ MatchOk L G V pay.size) := hq
      have E8 : Hid (AtIn W8 (.slice av L.length cv) L ∧ VlIn W8 (.slice au V.length cu) V ∧ PdIn W8 (.slice ab nl cb) (G.take i ++ G.drop (i + 1)) ∧ PdIn W8 (.slice aj (G.length - 0) cj) G.reverse ∧ Below w.heap.size w W8) :=
        ⟨E7.out.1.below b8, E7.out.2.1.below b8, E7.out.2.2.2.1.below b8, E7.out.2.2.2.2.1.below b8, E7.out.2.2.2.2.2.trans (b8.mono E7.out.2.2.2.2.2.size)⟩
      have d0 := cell_grown e0 b8
      have d1 := cell_grown e1 b8
      have dl : W2.heap.size < W8.heap.size := by have := b8.size; omega
      clear hq b8 e0 e1 el E7
      go_wp2_with fail
      refine (awake5_any _).mono ?_
      rintro e W9 ⟨rfl, b9⟩
      have E9 : Hid (AtIn W9 (.slice av L.length cv) L ∧ VlIn W9 (.slice au V.length cu) V ∧ PdIn W9 (.slice ab nl cb) (G.take i ++ G.drop (i + 1)) ∧ PdIn W9 (.slice aj (G.length - 0) cj) G.reverse ∧ Below w.heap.size w W9) :=
        ⟨E8.out.1.below b9, E8.out.2.1.below b9, E8.out.2.2.1.below b9, E8.out.2.2.2.1.below b9, E8.out.2.2.2.2.trans (b9.mono E8.out.2.2.2.2.size)⟩
      have e0 := cell_grown d0 b9
      have e1 := cell_grown d1 b9
      have el : W2.heap.size < W9.heap.size := by have := b9.size; omega
      clear b9 d0 d1 dl E8
      go_wp2_with fail
      refine (filter_any _ _ L (G.take i ++ G.drop (i + 1)) _ E9.out.1 E9.out.2.2.1 (by omega) (by simp; omega) (sz_sub SG.out less_mem)).mono ?_
      rintro e W10 ⟨hE, b10⟩
      obtain rfl := hE.t (less_ok HF.out (by omega) hi)
      have E10 : Hid (AtIn W10 (.slice av L.length cv) L ∧ VlIn W10 (.slice au V.length cu) V ∧ PdIn W10 (.slice ab nl cb) (G.take i ++ G.drop (i + 1)) ∧ PdIn W10 (.slice aj (G.length - 0) cj) G.reverse ∧ Below w.heap.size w W10) :=
        ⟨E9.out.1.below b10, E9.out.2.1.below b10, E9.out.2.2.1.below b10, E9.out.2.2.2.1.below b10, E9.out.2.2.2.2.trans (b10.mono E9.out.2.2.2.2.size)⟩
      have d0 := cell_grown e0 b10
      have d1 := cell_grown e1 b10
      have dl : W2.heap.size < W10.heap.size := by have := b10.size; omega
      clear b10 e0 e1 el E9 hE
      cases q
      · have HN : Hid (¬ MatchOk L G V pay.size) := fun h => by have := HQ.out.mpr h; simp at this
        go_wp2_with fail
        refine (match_any _ _ _ L G.reverse V pay _ E10.out.1 E10.out.2.2.2.1 E10.out.2.1 (by omega) (by simp; omega) (by omega) SP.out (sz_sub SG.out (fun p hp => List.mem_reverse.mp hp)) SV.out).mono ?_
        rintro e W11 ⟨hs, b11⟩
        obtain rfl := hs.f (fun h => HN.out (rev_match.mp h))
        have B11 : Hid (Below w.heap.size w W11) := E10.out.2.2.2.2.trans (b11.mono E10.out.2.2.2.2.size)
        clear hs b11 d0 d1 dl
        go_wp2
        go_ret
        exact ⟨rfl, B11.out⟩
      · have HN : Hid (MatchOk L G V pay.size) := HQ.out.mp rfl
        go_wp2_with fail
        refine (match_any _ _ _ L (G.take i ++ G.drop (i + 1)) V pay _ E10.out.1 E10.out.2.2.1 E10.out.2.1 (by omega) (by simp; omega) (by omega) SP.out (sz_sub SG.out less_mem) SV.out).mono ?_
        rintro e W11 ⟨hs, b11⟩
        obtain rfl := hs.t (less_match HN.out (by omega) hi)
        have E11 : Hid (AtIn W11 (.slice av L.length cv) L ∧ VlIn W11 (.slice au V.length cu) V ∧ PdIn W11 (.slice aj (G.length - 0) cj) G.reverse ∧ Below w.heap.size w W11) :=
          ⟨E10.out.1.below b11, E10.out.2.1.below b11, E10.out.2.2.2.1.below b11, E10.out.2.2.2.2.trans (b11.mono E10.out.2.2.2.2.size)⟩
        have e0 := cell_grown d0 b11
        have e1 := cell_grown d1 b11
        have el : W2.heap.size < W11.heap.size := by have := b11.size; omega
        clear hs b11 d0 d1 dl E10
        go_wp2_with fail
        refine (match_any _ _ _ L G.reverse V pay _ E11.out.1 E11.out.2.2.1 E11.out.2.1 (by omega) (by simp; omega) (by omega) SP.out (sz_sub SG.out (fun p hp => List.mem_reverse.mp hp)) SV.out).mono ?_
        rintro e W12 ⟨hs, b12⟩
        obtain rfl := hs.t (rev_match.mpr HN.out)
        have B12 : Hid (Below w.heap.size w W12) := E11.out.2.2.2.trans (b12.mono E11.out.2.2.2.size)
        clear hs b12 e0 e1 el
        go_wp2
        go_ret
        exact ⟨rfl, B12.out⟩
    · obtain ⟨m, rfl⟩ : ∃ m, j = m + 1 := ⟨j - 1, by omega⟩
      have hm : m < G.length := by omega
      have hmm : ((m + 1 : Nat) : Int) - 1 = (m : Int) := by omega
      rw [hmm]
      have hm0 : (0 : Int) ≤ (m : Int) := by omega
      have hbr := R.out.2.1
      obtain ⟨g', hg', hgl, _, c0, c1, c2, c3, c4⟩ := (A6.out.2.2.1.below hbr).row m hm
      simp at hg'
      subst hg'
      have SN : Hid ((G.drop m).reverse.flatMap Pd.cells = (G.drop (m + 1)).reverse.flatMap Pd.cells ++ (G.getD m pd0).cells) := rev_snoc G m hm
      generalize G.getD m pd0 = x at c0 c1 c2 c3 c4 SN
      clear hbr
      go_wp2_with (at_builtin; refine wpList_own_append5 _ rfl _ _ 25 25 rfl Wy.heap.size 43 i0 _ 56 Try.underlying25 hii hz0 hz1 hz2 rfl _ _ _ rfl (own_carry R.out.1 (below1 _ _)) _ 1 x.cells rfl (src_Pd wr x wr.heap.size rfl) ?c3 ?c4 ?c5 ?_)
      case c3 => unfold maxLen; omega
      case c4 => omega
      case c5 => have := R.out.2.2; simp; omega
      intro v' W7 ha
      have HST : Hid (W7.ownsRow Wy.heap.size 43 5 v' (G.length - m) ((G.drop m).reverse.flatMap Pd.cells) ∧ Below Wy.heap.size Wy W7 ∧ Wy.heap.size ≤ W7.heap.size) := by
        have hr := ha.row
        rw [← SN.out, show G.length - (m + 1) + 1 = G.length - m by omega] at hr
        have b8 : Below Wy.heap.size Wy (wr.alloc (.cells #[.string x.name, .int .i64 x.op, .int .i64 x.lo, .int .i64 x.hi, .string x.str] 43)) := R.out.2.1.trans ((below1 _ _).mono R.out.2.2)
        exact ⟨hr, grown_below b8 b8.size (own_carry R.out.1 (below1 _ _)) ha.grown, Nat.le_trans b8.size ha.grown.size⟩
      obtain ⟨a', c', hv'⟩ := ha.shape
      rw [show G.length - (m + 1) + 1 = G.length - m by omega] at hv'
      subst hv'
      clear ha c0 c1 c2 c3 c4
      go_wp2
      go_roundg m
      case measure => omega
      case rel => exact ⟨m, by first | rfl | go_num, by omega, rfl, ⟨_, _, rfl⟩, HST⟩

/-! ### The row's step -/
set_option maxRecDepth 100000 in
theorem lifted (os : Os) (started : os.Started) (H : Type) (enc : TypeId × Value → H) :
    ReturnsInHanded {} Try.checked os 3 .any (Rows.valueTighterSpec.pre6 enc Try.prog Try.f3 Rows.valueTighterRow.domain false) (Rows.valueTighterSpec.post enc Try.prog Try.f3 false true false false) := by
  refine returnsInHanded_of_change (C := Try.checked) own started (by kernel_rfl) Try.func3
    (ChangeSpec.witness6 (enc := enc) (C := Try.checked) false ⟨#[], #[.slice none 0 0, .slice none 0 0, .agg #[.slice none 0 0, .string ByteArray.empty], .int .i64 0], []⟩ 8 (by kernel_rfl) (by kernel_rfl) (by kernel_rfl) (by kernel_rfl)) ?_
  intro W base args ds gs before hval0 hW hcnd _
  have hval : ∀ (j : Nat) t v, Try.f3.params[j]? = some t → args[j]? = some v → Value.okWide Try.prog W .any base t v := hval0
  have hW' := hW
  obtain ⟨p, q, hA0, hV, rfl, hfz, hnd⟩ := hW
  have hA : DataW.TrodAll enc Try.prog W 0 (fun _ => true) true Try.f3.params.toList args.toList ds p := hA0
  rw [Try.params3] at hA hval
  obtain ⟨v0, vs0, d0, ds0, p0, q0, hargs, rfl, rfl, h0, r0⟩ := trodAll_cons hA
  obtain ⟨v1, vs1, d1, ds1, p1, q1, rfl, rfl, rfl, h1, r1⟩ := trodAll_cons r0
  obtain ⟨v2, vs2, d2, ds2, p2, q2, rfl, rfl, rfl, h2, r2⟩ := trodAll_cons r1
  obtain ⟨v3, vs3, d3, ds3, p3, q3, rfl, rfl, rfl, h3, r3⟩ := trodAll_cons r2
  obtain ⟨rfl, rfl, rfl⟩ := trodAll_nil r3
  obtain rfl : args = #[v0, v1, v2, v3] := by cases args; simp_all
  obtain ⟨rfl, rfl⟩ := trodVars_none hV
  obtain ⟨a0, len0, cap0, rfl⟩ := okWide_slice Try.underlying23 (hval 0 23 v0 rfl rfl)
  have k0 := h0
  have lt0 : ∀ x ∈ p0, x.block < W.heap.size := by obtain ⟨m, hm⟩ := k0; exact DataW.trod_lt m _ _ _ hm
  obtain ⟨t0, w0⟩ : ∃ ts, InRow 4 At.cells At.ok at0 W a0 len0 ts := by
    obtain ⟨fuel, hf⟩ := h0
    exact inrow_of 4 At.cells At.ok at0 23 54 Try.underlying23 cellsAt (by omega) At.cells_len (fun n cs x => at_of n cs x) hf
  obtain ⟨a1, len1, cap1, rfl⟩ := okWide_slice Try.underlying25 (hval 1 25 v1 rfl rfl)
  have k1 := h1
  have lt1 : ∀ x ∈ p1, x.block < W.heap.size := by obtain ⟨m, hm⟩ := k1; exact DataW.trod_lt m _ _ _ hm
  obtain ⟨t1, w1⟩ : ∃ ts, InRow 5 Pd.cells Pd.ok pd0 W a1 len1 ts := by
    obtain ⟨fuel, hf⟩ := h1
    exact inrow_of 5 Pd.cells Pd.ok pd0 25 43 Try.underlying25 cellsPd (by omega) Pd.cells_len (fun n cs x => pd_of n cs x) hf
  obtain ⟨cs2, rfl, hcs2⟩ := okWide_struct Try.underlying28 (hval 2 28 v2 rfl rfl)
  have k2 := h2
  have lt2 : ∀ x ∈ p2, x.block < W.heap.size := by obtain ⟨m, hm⟩ := k2; exact DataW.trod_lt m _ _ _ hm
  obtain ⟨fuel2, hf2⟩ := h2
  obtain ⟨a2, len2, cap2, t2, s2, rfl, w2, z2⟩ := ev_of hcs2 hf2
  obtain ⟨a3, rfl, rfl, rfl, w3⟩ := open_int Try.underlying3 (hval 3 3 v3 rfl rfl) h3
  clear hA0 hval0
  refine (walk a0 len0 cap0 t0 a1 len1 cap1 t1 a2 len2 cap2 t2 s2 a3 W w0 w1 w2 z2 w3).mono fun e W' ⟨he, bel⟩ => ?_
  subst he
  exact ⟨_, rfl, _, _, _, [], _, [], hW', trodAll_mk1 (shut_bool Try.underlying4 _), (trodAll_cons_mk (Below.trod laidOut (by kernel_rfl) (of_decide_eq_true (by kernel_rfl)) k0 bel lt0) (trodAll_cons_mk (Below.trod laidOut (by kernel_rfl) (of_decide_eq_true (by kernel_rfl)) k1 bel lt1) (trodAll_cons_mk (Below.trod laidOut (by kernel_rfl) (of_decide_eq_true (by kernel_rfl)) k2 bel lt2) (trodAll_cons_mk (shut_int Try.underlying3 w3) trodAll_mk0)))), rfl, bel.frame _, fun h => by cases h⟩

theorem over : Rows.valueTighterRow.holds Try.pinned (OpenSpec.ofChange Rows.valueTighterSpec) :=
  OpenClaim.holds_of_wide 3 Try.f3 rfl rfl rfl rfl rfl rfl rfl ⟨rfl, rfl, rfl, rfl, rfl⟩ rfl rfl rfl rfl rfl (by kernel_rfl) Try.func3 (by kernel_rfl)
    (of_decide_eq_true (by kernel_rfl)) (by unfold Func.isWrapper; first | (rw [if_pos (by decide +kernel)]; kernel_rfl) | (rw [if_neg (by decide +kernel)]; exact ⟨rfl, rfl⟩))
    (fun os started H enc _ => lifted os started H enc)

end Go.Proofs.Ytlnmeofdpngofaa.valueTighter

namespace Go.Proofs.Ytlnmeofdpngofaa
/-- Proved: for every schema, filter, event and place, ValueTighter answers true (a filter with a predicate more takes no event that the one without it doesn't take; in any order it takes the same). -/
theorem valueTighter_holds : Rows.ValueTighterSaid := valueTighter.over
#print axioms valueTighter_holds
end Go.Proofs.Ytlnmeofdpngofaa
