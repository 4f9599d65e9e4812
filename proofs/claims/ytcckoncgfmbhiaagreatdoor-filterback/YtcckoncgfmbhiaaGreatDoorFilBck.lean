/- wigwaglaw06.FilterBack, walked. -/
import Derived.Test.YtcckoncgfmbhiaaGreatDoorFilSch
import Derived.Test.YtcckoncgfmbhiaaGreatDoorFilDoor
import Derived.Test.YtcckoncgfmbhiaaGreatDoorFilTold
namespace Go.Proofs.YtcckoncgfmbhiaaGreatDoor
open Go.ChangeShapes Go.WideShapes Go.ChangeAt Go.RowKit
set_option linter.unusedVariables false

theorem fz_cutA (t : List At) : ∀ i, i < ((t.take 6).map cutA).length → (((t.take 6).map cutA).getD i at0).name.size ≤ 20 := fun i hi => by
  have hi' : i < 6 ∧ i < t.length := by simp at hi; omega
  have e : ((t.take 6).map cutA).getD i at0 = cutA t[i] := by simp [hi'.1, hi'.2]
  rw [e]
  exact cut_size t[i].name 20
theorem fz_cutP (t : List Pd) : ∀ i, i < ((t.take 6).map cutP).length → (((t.take 6).map cutP).getD i pd0).str.size ≤ 50 ∧ (((t.take 6).map cutP).getD i pd0).name.size ≤ 20 := fun i hi => by
  have hi' : i < 6 ∧ i < t.length := by simp at hi; omega
  have e : ((t.take 6).map cutP).getD i pd0 = cutP t[i] := by simp [hi'.1, hi'.2]
  rw [e]
  exact ⟨cut_size t[i].str 50, cut_size t[i].name 20⟩
/-- The schema and the filter lie where they lay, the library's variables too. -/
structure Fb (w W : World) (sl gl : Value) (L : List At) (G : List Pd) : Prop where
  at_ : AtIn W sl L
  pd : PdIn W gl G
  env : Env W ∧ ErrType W
  bel : Below w.heap.size w W
theorem Fb.below {w W W' : World} {sl gl : Value} {L : List At} {G : List Pd} (h : Fb w W sl gl L G) (hb : Below W.heap.size W W') : Fb w W' sl gl L G :=
  ⟨h.at_.below hb, h.pd.below hb, ⟨h.env.1.below hb h.env.1.lt, h.env.2.below h.env.2.lt hb⟩, h.bel.trans (hb.mono h.bel.size)⟩

set_option maxRecDepth 100000 in
set_option maxHeartbeats 4000000 in
theorem fback_walk (a0 : Option Addr) (len0 cap0 : Nat) (t0 : List At) (a1 : Option Addr) (len1 cap1 : Nat) (t1 : List Pd) (w : World) (hE : ErrType w) (hV : Env w) (w0 : InRow 4 At.cells At.ok at0 w a0 len0 t0) (w1 : InRow 5 Pd.cells Pd.ok pd0 w a1 len1 t1) :
    Calls Tryz.prog 4 #[.slice a0 len0 cap0, .slice a1 len1 cap1] w fun e w' => e = .returned (.bool true) ∧ Below w.heap.size w w' := by
  obtain ⟨L, hL⟩ : ∃ L, L = (t0.take 6).map cutA := ⟨_, rfl⟩
  obtain ⟨G, hG⟩ : ∃ G, G = (t1.take 6).map cutP := ⟨_, rfl⟩
  have lL : L.length ≤ 6 := by rw [hL]; simp; omega
  have lG : G.length ≤ 6 := by rw [hG]; simp; omega
  have SL : Hid (∀ i, i < L.length → (L.getD i at0).name.size ≤ maxLen) := by rw [hL]; exact fun i hi => Nat.le_trans (fz_cutA t0 i hi) (by unfold maxLen; omega)
  have SG : Hid (∀ i, i < G.length → (G.getD i pd0).str.size ≤ maxLen) := by rw [hG]; exact fun i hi => Nat.le_trans (fz_cutP t1 i hi).1 (by unfold maxLen; omega)
  have hc1 := attrs_any a0 len0 cap0 t0 w w0
  rw [← hL] at hc1
  have HG : Hid (G = (t1.take 6).map cutP) := hG
  have HW1 : Hid _ := w1
  have HE : Hid (Env w ∧ ErrType w) := ⟨hV, hE⟩
  clear hL hG w0 w1 hE hV
  go_enter Tryz.func4, Tryz.ntmps4
  go_wp2_with fail
  refine hc1.mono ?_
  rintro e W1 ⟨v1, v2, rfl, R1⟩
  clear hc1
  have A1 : Hid (AtIn W1 v1 L) := AtIn.ofOwn R1.r1
  have B1 : Hid (Below w.heap.size w W1) := R1.bel
  have hc2 := preds_any a1 len1 cap1 t1 W1 (InRow.below HW1.out (Nat.le_refl _) B1.out)
  rw [← HG.out] at hc2
  clear R1
  go_wp2_with fail
  refine hc2.mono ?_
  rintro e W2 ⟨p1, p2, rfl, R2⟩
  clear hc2
  have M2 : Hid (Fb w W2 v1 p1 L G) := ⟨A1.out.below R2.bel, PdIn.ofOwn R2.r1, ⟨(HE.out.1.below B1.out HE.out.1.lt).below R2.bel (Nat.le_trans HE.out.1.lt B1.out.size), (HE.out.2.below HE.out.2.lt B1.out).below (Nat.lt_of_lt_of_le HE.out.2.lt B1.out.size) R2.bel⟩, B1.out.trans (R2.bel.mono B1.out.size)⟩
  clear R2 A1 B1 HW1 HG
  go_wp2_with fail
  refine Calls.mono (filter_any v1 p1 L G _ M2.out.at_ M2.out.pd (by omega) (by omega) SG.out) ?_
  rintro e W3 ⟨hEF, b3⟩
  have M3 : Hid (Fb w W3 v1 p1 L G) := M2.out.below b3
  clear b3 M2
  by_cases hFO : FilterOk L G
  · have := hEF.t hFO
    subst this
    have HFO : Hid (FilterOk L G) := hFO
    clear hEF hFO
    go_wp2_with fail
    refine Calls.mono (check_any v1 L _ M3.out.at_ (by omega) SL.out) ?_
    rintro e W4 ⟨hES, b4⟩
    have M4 : Hid (Fb w W4 v1 p1 L G) := M3.out.below b4
    clear b4 M3
    by_cases hSO : SchemaOk L
    · have := hES.t hSO
      subst this
      have HSO : Hid (SchemaOk L) := hSO
      have HPR : Hid (∀ q ∈ G.map plOf, PrnL q) := prn_of hSO HFO.out
      have hgl : 1 ≤ G.length := HFO.out.1
      have HNE : Hid (G.map plOf ≠ []) := fun e => by
        have h0 : (G.map plOf).length = 0 := by rw [e]; rfl
        rw [List.length_map] at h0
        omega
      have HLQ : Hid ((G.map plOf).length ≤ 100) := by rw [Hid, List.length_map]; omega
      have HRB : Hid (∀ (W : World), Env W → AtIn W v1 L → (ba (pF (G.map plOf))).size ≤ 300 → Calls Tryz.prog 7 #[v1, .string (ba (pF (G.map plOf)))] W fun e w' => ∃ u, e = .returned (.tuple #[u, .nilIface]) ∧ PlIn w' u (G.map plOf) ∧ Below W.heap.size W w') := fun W E hA ht => read_back v1 L G W E hA HSO.out HFO.out ht
      have HPT : Hid (∀ (W : World) (v : Value), Env W → PlIn W v (G.map plOf) → Calls Tryz.prog 13 #[v] W fun e w' => e = .returned (.string (ba (pF (G.map plOf)))) ∧ Below W.heap.size W w') := fun W v E h => print_any v (G.map plOf) W E h HNE.out HLQ.out HPR.out
      have hsz : (ba (pF (G.map plOf))).size ≤ 100000 := by
        rw [ba_size]
        have := pF_le (G.map plOf) HPR.out
        rw [List.length_map] at this
        omega
      clear hES hSO
      generalize ba (pF (G.map plOf)) = t at HRB HPT hsz
      go_wp2_with fail
      refine Calls.mono (HPT.out _ _ M4.out.env.1 (PlIn.ofPd M4.out.pd)) ?_
      rintro e W5 ⟨rfl, b5⟩
      have M5 : Hid (Fb w W5 v1 p1 L G) := M4.out.below b5
      clear b5 M4
      by_cases ht : 300 < t.size
      · go_wp2_with fail
        refine Calls.mono (awake6_any _ M5.out.env.1 M5.out.env.2) ?_
        rintro e W6 ⟨rfl, b6⟩
        have M6 : Hid (Fb w W6 v1 p1 L G) := M5.out.below b6
        clear b6
        go_wp2
        go_ret
        exact ⟨rfl, M6.out.bel⟩
      · have ht' : t.size ≤ 300 := by omega
        go_wp2_with fail
        refine Calls.mono (HRB.out _ M5.out.env.1 M5.out.at_ ht') ?_
        rintro e W6 ⟨u, rfl, hu, b6⟩
        have M6 : Hid (Fb w W6 v1 p1 L G ∧ PlIn W6 u (G.map plOf)) := ⟨M5.out.below b6, hu⟩
        clear b6 hu M5
        go_wp2_with fail
        refine Calls.mono (awake6_any _ M6.out.1.env.1 M6.out.1.env.2) ?_
        rintro e W7 ⟨rfl, b7⟩
        have M7 : Hid (Fb w W7 v1 p1 L G ∧ PlIn W7 u (G.map plOf)) := ⟨M6.out.1.below b7, M6.out.2.below b7⟩
        clear b7 M6
        go_wp2_with fail
        refine Calls.mono (told_any u (G.map plOf) _ M7.out.2 (by have := HLQ.out; omega)) ?_
        rintro e W8 ⟨x1, rfl, hr8, b8⟩
        have M8 : Hid (Fb w W8 v1 p1 L G ∧ PlIn W8 u (G.map plOf) ∧ PlIn W8 x1 (G.map plOf)) := ⟨M7.out.1.below b8, M7.out.2.below b8, PlIn.ofOwn hr8⟩
        clear b8 M7 hr8
        go_wp2_with fail
        refine Calls.mono (told_any p1 (G.map plOf) _ (PlIn.ofPd M8.out.1.pd) (by have := HLQ.out; omega)) ?_
        rintro e W9 ⟨x2, rfl, hr9, b9⟩
        have M9 : Hid (Fb w W9 v1 p1 L G ∧ PlIn W9 u (G.map plOf) ∧ PlIn W9 x1 (G.map plOf) ∧ PlIn W9 x2 (G.map plOf)) := ⟨M8.out.1.below b9, M8.out.2.1.below b9, M8.out.2.2.below b9, PlIn.ofOwn hr9⟩
        clear b9 M8 hr9
        go_wp2_with fail
        refine Calls.mono (same_yes x1 x2 (G.map plOf) _ M9.out.2.2.1 M9.out.2.2.2 (by have := HLQ.out; omega)) ?_
        rintro e W10 ⟨rfl, b10⟩
        have M10 : Hid (Fb w W10 v1 p1 L G ∧ PlIn W10 u (G.map plOf)) := ⟨M9.out.1.below b10, M9.out.2.1.below b10⟩
        clear b10 M9
        go_wp2_with fail
        refine Calls.mono (HPT.out _ _ M10.out.1.env.1 M10.out.2) ?_
        rintro e W11 ⟨rfl, b11⟩
        have M11 : Hid (Fb w W11 v1 p1 L G) := M10.out.1.below b11
        clear b11 M10
        go_wp2
        go_ret
        exact ⟨rfl, M11.out.bel⟩
    · obtain ⟨b, rfl⟩ := hES.f hSO
      clear hES hSO
      go_wp2_with fail
      refine Calls.mono (awake6_any _ M4.out.env.1 M4.out.env.2) ?_
      rintro e W6 ⟨rfl, b6⟩
      have M6 : Hid (Fb w W6 v1 p1 L G) := M4.out.below b6
      clear b6
      go_wp2
      go_ret
      exact ⟨rfl, M6.out.bel⟩
  · obtain ⟨b, rfl⟩ := hEF.f hFO
    clear hEF hFO
    go_wp2_with fail
    refine Calls.mono (awake6_any _ M3.out.env.1 M3.out.env.2) ?_
    rintro e W6 ⟨rfl, b6⟩
    have M6 : Hid (Fb w W6 v1 p1 L G) := M3.out.below b6
    clear b6
    go_wp2
    go_ret
    exact ⟨rfl, M6.out.bel⟩
end Go.Proofs.YtcckoncgfmbhiaaGreatDoor
