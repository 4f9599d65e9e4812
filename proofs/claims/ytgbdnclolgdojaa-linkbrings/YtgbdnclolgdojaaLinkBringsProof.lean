/- Proved: for any two lists of texts, LinkBrings answers true (packets that all arrive, to and fro, bring over all that waits; of at most 64 texts on each side, in so many rounds).
  The frame is the guide's own shell (proof-skeleton.mjs) at this function; the walk and all ahead of it are mine. -/
import Derived.Test.YtgbdnclolgdojaaRows
import Derived.Test.YtgbdnclolgdojaaLinkBr
import Derived.Laws.OwnMore
import Derived.Deep.LoopGhost
import Derived.Deep.CutBlock
import Derived.Deep.DeepCutAuto
import Derived.Deep.QuietTactic
import Derived.BigQuiet
import Derived.WalkKit
import Derived.WalkLawsBesides
import Derived.ProofKit
import Derived.OpenShut
import Derived.ShutString
import Derived.ChangeOld
import Derived.Below
namespace Go.Proofs.Ytgbdnclolgdojaa.linkBrings
open Go.ChangeShapes Go.WideShapes Go.ChangeAt Go.RowKit
open Go.ChangeMaps (open_string shut_string)
set_option linter.unusedVariables false

theorem own : ownKnob Try.prog.godebug = none := by kernel_rfl
theorem laidOut : laidOutB Try.prog = true := by kernel_rfl


structure Bs (w wr : World) (m : Nat) (V : Nat → Value) (L : Nat → List ByteArray) (x y : Lk) (X Y : List ByteArray) : Prop where
  lr : Lrw w wr m V L x y
  inv : Inv x y X Y
  l0 : L 0 = X
  l1 : L 1 = Y
  l2 : L 2 = X.take y.came.toNat
  l3 : L 3 = Y.take x.came.toNat
  bt : Bt X Y
theorem Bs.cs {w wr : World} {m : Nat} {V : Nat → Value} {L : Nat → List ByteArray} {x y : Lk} {X Y : List ByteArray} (h : Bs w wr m V L x y X Y) : x.came ≤ 64 ∧ y.came ≤ 64 ∧ 0 ≤ x.came ∧ 0 ≤ y.came ∧ x.came ≤ Y.length ∧ y.came ≤ X.length := by
  have h1 := h.inv.x1; have h2 := h.inv.x2; have h3 := h.inv.y1; have h4 := h.inv.y2; have h5 := h.bt.lx; have h6 := h.bt.ly; have h7 := h.inv.x0; have h8 := h.inv.y0
  omega
/-! ### STEP 1: the walk -/
set_option maxRecDepth 100000 in
set_option maxHeartbeats 20000000 in
theorem walk (a0 : Option Addr) (len0 cap0 : Nat) (t0 : List ByteArray) (a1 : Option Addr) (len1 cap1 : Nat) (t1 : List ByteArray) (w : World) (w0 : InRow 1 encS okS ByteArray.empty w a0 len0 t0) (w1 : InRow 1 encS okS ByteArray.empty w a1 len1 t1) :
    Calls Try.prog 3 #[.slice a0 len0 cap0, .slice a1 len1 cap1] w fun e w' => e = .returned (.bool true) ∧ Below w.heap.size w w' := by
  have hmx0 := w0.2.1
  have hmx1 := w1.2.1
  have HX : Hid (InRow 1 encS okS ByteArray.empty w a0 len0 t0) := w0
  have HY : Hid (InRow 1 encS okS ByteArray.empty w a1 len1 t1) := w1
  clear w0 w1
  obtain ⟨i0, hif, hz0, hz1, hz2⟩ := info_parts Try.infoStr
  obtain ⟨W0, hW0⟩ : ∃ W0, W0 = (((w.alloc (.cells #[.slice none 0 0, .int .i64 0, .int .i64 0, .bool false] 24)).alloc (.cells #[.slice none 0 0, .int .i64 0, .int .i64 0, .bool false] 24)).alloc (.cells #[] 9)).alloc (.cells #[] 9) := ⟨_, rfl⟩
  have H0 : Hid (Lrw w W0 2 (fun i => .slice (some ⟨w.heap.size + 2 + i, 0, none⟩) 0 0) (fun _ => []) lk0 lk0) := (by
    rw [hW0]
    refine ((Lrw.new w).start).start.ext (fun i hi => ?_) (fun i hi => ?_)
    · rcases Nat.lt_or_ge i 1 with q | q
      · obtain rfl : i = 0 := by omega
        rw [updR_other _ _ (by omega), updR_same]; simp
      · obtain rfl : i = 1 := by omega
        rw [updR_same]; simp
    · rcases Nat.lt_or_ge i 1 with q | q
      · obtain rfl : i = 0 := by omega
        rw [updR_other _ _ (by omega), updR_same]
      · obtain rfl : i = 1 := by omega
        rw [updR_same] : Lrw w W0 2 (fun i => .slice (some ⟨w.heap.size + 2 + i, 0, none⟩) 0 0) (fun _ => []) lk0 lk0)
  go_enter Try.func3, Try.ntmps3
  go_upto_region 3 with fail
  rw [← hW0]
  clear hW0
  go_wp2
  go_loopw [9, 7] (fun u v wr => ∃ (i : Nat) (V : Nat → Value) (L : Nat → List ByteArray), u = .int .i64 i ∧ v = V 0 ∧ i ≤ len0 ∧ i ≤ 64 ∧ Hid (Lrw w wr 2 V L { lk0 with q := L 0 } lk0 ∧ V 1 = .slice (some ⟨w.heap.size + 3, 0, none⟩) 0 0 ∧ L 1 = [] ∧ (L 0).length = i ∧ (∀ t ∈ L 0, t.size ≤ 100))) (fun u _ _ => 64 - (intOf u).toNat)
  case atStart => exact ⟨0, (fun i => .slice (some ⟨w.heap.size + 2 + i, 0, none⟩) 0 0), (fun _ => []), rfl, rfl, Nat.zero_le _, Nat.zero_le _, (⟨H0.out, rfl, rfl, rfl, fun t ht => by cases ht⟩ : Lrw w W0 2 (fun i => .slice (some ⟨w.heap.size + 2 + i, 0, none⟩) 0 0) (fun _ => []) { lk0 with q := [] } lk0 ∧ _ ∧ _ ∧ _ ∧ _)⟩
  case round =>
    obtain ⟨i, V, L, rfl, rfl, hil, hi64, H⟩ := hrel
    clear H0
    by_cases hlt : i < len0 ∧ i < 64
    · obtain ⟨hl1, hl2⟩ := hlt
      have hi0 : (0 : Int) ≤ (i : Int) := Int.natCast_nonneg _
      have hi1 : (i : Int) < (len0 : Int) := by omega
      have hi2 : (i : Int) < 64 := by omega
      obtain ⟨b, o, ha, hb, hok, c0⟩ := str_at HX.out H.out.1.bel hl1
      subst ha
      generalize t0.getD i ByteArray.empty = s at hok c0
      have hcut := cut_any s 100 wr (by unfold okS at hok; unfold maxLen; exact hok)
      have hcs := cut_size s 100
      generalize cut s 100 = cs at hcs hcut
      have HC : Hid _ := hcut
      clear hcut
      go_wp2_with fail
      refine Calls.mono HC.out ?_
      rintro e w2 ⟨rfl, hw2⟩
      subst w2
      clear HC
      go_wp2_with fail
      refine (H.out.1.push_a cs (by omega) (by show (L 0).length < 64; rw [H.out.2.2.2.1]; omega)).mono ?_
      rintro e w3 ⟨rfl, h3⟩
      have H3 : Hid (Lrw w w3 2 V L { lk0 with q := L 0 ++ [cs] } lk0 ∧ V 1 = .slice (some ⟨w.heap.size + 3, 0, none⟩) 0 0 ∧ L 1 = [] ∧ (L 0).length = i ∧ (∀ t ∈ L 0, t.size ≤ 100)) := ⟨h3, H.out.2.1, H.out.2.2.1, H.out.2.2.2.1, H.out.2.2.2.2⟩
      clear h3 H c0 hb hok
      have HO : Hid ((w3.alloc (.cells #[.string cs] 9)).ownsRow (w.heap.size + 2) 9 1 (V 0) (L 0).length (txs (L 0))) := (H3.out.1.below ((Below.refl _ _).alloc (Nat.le_refl _) _)).own 0 (by omega)
      have HS : Hid (Src Try.prog 1 22 (.slice (some ⟨w3.heap.size, 0, none⟩) 1 1) 1 [.string cs] (w3.alloc (.cells #[.string cs] 9))) := Src.ofSlice _ Try.underlying22 _ _ _ _ rfl (World.news_of_block (cs := #[.string cs]) (t := 9) (fr := (0, 0)) (heap_alloc_new w3 _)) (by simp [Value.oneCell'])
      have hL0 : (L 0).length ≤ 64 := by rw [H3.out.2.2.2.1]; omega
      have hsz := H3.out.1.size
      go_wp2_with (at_builtin; refine wpList_own_append _ rfl _ _ 22 22 rfl (w.heap.size + 2) 9 i0 _ 16 Try.underlying22 hif hz0 hz1 hz2 rfl _ _ _ rfl HO.out _ 1 [.string cs] rfl HS.out ?c3 ?c4 ?c5 ?_)
      case c3 => unfold maxLen; omega
      case c4 => omega
      case c5 => simp; omega
      intro v' w4 ha4
      have h4 := (H3.out.1.below ((Below.refl _ _).alloc (Nat.le_refl _) _)).app (i := 0) (s := cs) (by omega) (by simp) (by simp [txs]) ha4
      have htx : ∀ t ∈ L 0 ++ [cs], t.size ≤ 100 := fun t ht => by
        rcases List.mem_append.1 ht with q | q
        · exact H3.out.2.2.2.2 t q
        · rw [List.mem_singleton.1 q]; exact hcs
      have H4 : Hid (Lrw w w4 2 (updR V 0 v') (updR L 0 (L 0 ++ [cs])) { lk0 with q := updR L 0 (L 0 ++ [cs]) 0 } lk0 ∧ updR V 0 v' 1 = .slice (some ⟨w.heap.size + 3, 0, none⟩) 0 0 ∧ updR L 0 (L 0 ++ [cs]) 1 = [] ∧ (updR L 0 (L 0 ++ [cs]) 0).length = i + 1 ∧ (∀ t ∈ updR L 0 (L 0 ++ [cs]) 0, t.size ≤ 100)) := ⟨by rw [updR_same]; exact h4, by rw [updR_other _ _ (by omega)]; exact H3.out.2.1, by rw [updR_other _ _ (by omega)]; exact H3.out.2.2.1, by rw [updR_same, List.length_append, H3.out.2.2.2.1]; rfl, by rw [updR_same]; exact htx⟩
      have hv' : v' = updR V 0 v' 0 := (updR_same _ _ _).symm
      rw [hv']
      generalize updR V 0 v' = V4 at H4
      generalize updR L 0 (L 0 ++ [cs]) = L4 at H4
      clear ha4 hv' HO HS hL0 hsz H3 h4 htx
      go_wp2
      go_roundw
      case rel => exact ⟨i + 1, V4, L4, by go_num, rfl, by omega, by omega, H4⟩
      case measure => simp [intOf]; omega
    · have hor : (True ∧ ¬ (i : Int) < (len0 : Int)) ∨ ((i : Int) < (len0 : Int) ∧ ¬ (i : Int) < 64) := by
        by_cases q : (i : Int) < (len0 : Int)
        · exact .inr ⟨q, by omega⟩
        · exact .inl ⟨trivial, q⟩
      clear hlt
      go_upto_region 4 with fail
      go_cut [37] (fun v wx => v = .bool false ∧ wr = wx)
      case first =>
        rcases hor with ⟨hor', hor⟩ | ⟨hor', hor⟩
        all_goals
          go_wp2_with fail
          go_meet
          exact ⟨by simp, rfl⟩
      case rest =>
        obtain ⟨rfl, hwx⟩ := hcut
        subst hwx
        clear hor HX hil
        obtain ⟨X, hX⟩ : ∃ X, X = L 0 := ⟨_, rfl⟩
        obtain ⟨VX, hVX⟩ : ∃ VX, VX = V 0 := ⟨_, rfl⟩
        obtain ⟨xa, xc, hvx⟩ := H.out.1.shape (i := 0) (by omega)
        obtain ⟨nX, hnX⟩ : ∃ nX, nX = X.length := ⟨_, rfl⟩
        rw [← hX, ← hnX] at hvx
        have hX64 : nX ≤ 64 := by rw [hnX, hX, H.out.2.2.2.1]; exact hi64
        have HXX : Hid (nX = X.length ∧ (∀ t ∈ X, t.size ≤ 100) ∧ VX = .slice xa nX xc) := ⟨hnX, by rw [hX]; exact H.out.2.2.2.2, hVX.trans hvx⟩
        have HV1 : Hid (V 1 = .slice (some ⟨w.heap.size + 3, 0, none⟩) 0 0) := H.out.2.1
        have HP0 : Hid (Lrw w wr 2 V L { lk0 with q := X } { lk0 with q := L 1 } ∧ V 0 = VX ∧ L 0 = X ∧ (L 1).length = 0 ∧ (∀ t ∈ L 1, t.size ≤ 100)) := by
          have e1 := H.out.2.2.1
          refine ⟨?_, hVX.symm, hX.symm, by rw [e1]; rfl, fun t ht => by rw [e1] at ht; cases ht⟩
          have := H.out.1
          rw [← hX] at this
          rw [e1]; exact this
        rw [← hVX]
        clear H hX hVX hvx hnX hi64

        go_wp2
        go_loopw [11, 8] (fun u v wr => ∃ (i : Nat) (V : Nat → Value) (L : Nat → List ByteArray), u = .int .i64 i ∧ v = V 1 ∧ i ≤ len1 ∧ i ≤ 64 ∧ Hid (Lrw w wr 2 V L { lk0 with q := X } { lk0 with q := L 1 } ∧ V 0 = VX ∧ L 0 = X ∧ (L 1).length = i ∧ (∀ t ∈ L 1, t.size ≤ 100))) (fun u _ _ => 64 - (intOf u).toNat)
        case atStart => exact ⟨0, V, L, rfl, HV1.out.symm, Nat.zero_le _, Nat.zero_le _, HP0⟩
        case round =>
          obtain ⟨i, V, L, rfl, rfl, hil, hi64, H⟩ := hrel
          clear HP0 HV1
          by_cases hlt : i < len1 ∧ i < 64
          · obtain ⟨hl1, hl2⟩ := hlt
            have hi0 : (0 : Int) ≤ (i : Int) := Int.natCast_nonneg _
            have hi1 : (i : Int) < (len1 : Int) := by omega
            have hi2 : (i : Int) < 64 := by omega
            obtain ⟨b, o, ha, hb, hok, c0⟩ := str_at HY.out H.out.1.bel hl1
            subst ha
            generalize t1.getD i ByteArray.empty = s at hok c0
            have hcut := cut_any s 100 wr (by unfold okS at hok; unfold maxLen; exact hok)
            have hcs := cut_size s 100
            generalize cut s 100 = cs at hcs hcut
            have HC : Hid _ := hcut
            clear hcut
            go_wp2_with fail
            refine Calls.mono HC.out ?_
            rintro e w2 ⟨rfl, hw2⟩
            subst w2
            clear HC
            go_wp2_with fail
            refine (H.out.1.push_b cs (by omega) (by show (L 1).length < 64; rw [H.out.2.2.2.1]; omega)).mono ?_
            rintro e w3 ⟨rfl, h3⟩
            have H3 : Hid (Lrw w w3 2 V L { lk0 with q := X } { lk0 with q := L 1 ++ [cs] } ∧ V 0 = VX ∧ L 0 = X ∧ (L 1).length = i ∧ (∀ t ∈ L 1, t.size ≤ 100)) := ⟨h3, H.out.2.1, H.out.2.2.1, H.out.2.2.2.1, H.out.2.2.2.2⟩
            clear h3 H c0 hb hok
            have HO : Hid ((w3.alloc (.cells #[.string cs] 9)).ownsRow (w.heap.size + 2) 9 1 (V 1) (L 1).length (txs (L 1))) := (H3.out.1.below ((Below.refl _ _).alloc (Nat.le_refl _) _)).own 1 (by omega)
            have HS : Hid (Src Try.prog 1 22 (.slice (some ⟨w3.heap.size, 0, none⟩) 1 1) 1 [.string cs] (w3.alloc (.cells #[.string cs] 9))) := Src.ofSlice _ Try.underlying22 _ _ _ _ rfl (World.news_of_block (cs := #[.string cs]) (t := 9) (fr := (0, 0)) (heap_alloc_new w3 _)) (by simp [Value.oneCell'])
            have hL0 : (L 1).length ≤ 64 := by rw [H3.out.2.2.2.1]; omega
            have hsz := H3.out.1.size
            go_wp2_with (at_builtin; refine wpList_own_append _ rfl _ _ 22 22 rfl (w.heap.size + 2) 9 i0 _ 16 Try.underlying22 hif hz0 hz1 hz2 rfl _ _ _ rfl HO.out _ 1 [.string cs] rfl HS.out ?c3 ?c4 ?c5 ?_)
            case c3 => unfold maxLen; omega
            case c4 => omega
            case c5 => simp; omega
            intro v' w4 ha4
            have h4 := (H3.out.1.below ((Below.refl _ _).alloc (Nat.le_refl _) _)).app (i := 1) (s := cs) (by omega) (by simp) (by simp [txs]) ha4
            have htx : ∀ t ∈ L 1 ++ [cs], t.size ≤ 100 := fun t ht => by
              rcases List.mem_append.1 ht with q | q
              · exact H3.out.2.2.2.2 t q
              · rw [List.mem_singleton.1 q]; exact hcs
            have H4 : Hid (Lrw w w4 2 (updR V 1 v') (updR L 1 (L 1 ++ [cs])) { lk0 with q := X } { lk0 with q := updR L 1 (L 1 ++ [cs]) 1 } ∧ updR V 1 v' 0 = VX ∧ updR L 1 (L 1 ++ [cs]) 0 = X ∧ (updR L 1 (L 1 ++ [cs]) 1).length = i + 1 ∧ (∀ t ∈ updR L 1 (L 1 ++ [cs]) 1, t.size ≤ 100)) := ⟨by rw [updR_same]; exact h4, by rw [updR_other _ _ (by omega)]; exact H3.out.2.1, by rw [updR_other _ _ (by omega)]; exact H3.out.2.2.1, by rw [updR_same, List.length_append, H3.out.2.2.2.1]; rfl, by rw [updR_same]; exact htx⟩
            have hv' : v' = updR V 1 v' 1 := (updR_same _ _ _).symm
            rw [hv']
            generalize updR V 1 v' = V4 at H4
            generalize updR L 1 (L 1 ++ [cs]) = L4 at H4
            clear ha4 hv' HO HS hL0 hsz H3 h4 htx
            go_wp2
            go_roundw
            case rel => exact ⟨i + 1, V4, L4, by go_num, rfl, by omega, by omega, H4⟩
            case measure => simp [intOf]; omega
          · have hor : (True ∧ ¬ (i : Int) < (len1 : Int)) ∨ ((i : Int) < (len1 : Int) ∧ ¬ (i : Int) < 64) := by
              by_cases q : (i : Int) < (len1 : Int)
              · exact .inr ⟨q, by omega⟩
              · exact .inl ⟨trivial, q⟩
            clear hlt
            go_upto_region 11 with fail
            go_cut [59] (fun v wx => v = .bool false ∧ wr = wx)
            case first =>
              rcases hor with ⟨hor', hor⟩ | ⟨hor', hor⟩
              all_goals
                go_wp2_with fail
                go_meet
                exact ⟨by simp, rfl⟩
            case rest =>
              obtain ⟨rfl, hwx⟩ := hcut
              subst hwx
              clear hor HY hil
              obtain ⟨Y, hY⟩ : ∃ Y, Y = L 1 := ⟨_, rfl⟩
              obtain ⟨ya, yc, hvy⟩ := H.out.1.shape (i := 1) (by omega)
              obtain ⟨nY, hnY⟩ : ∃ nY, nY = Y.length := ⟨_, rfl⟩
              rw [← hY, ← hnY] at hvy
              have hY64 : nY ≤ 64 := by rw [hnY, hY, H.out.2.2.2.1]; exact hi64
              have HYY : Hid (nY = Y.length ∧ (∀ t ∈ Y, t.size ≤ 100)) := ⟨hnY, by rw [hY]; exact H.out.2.2.2.2⟩
              obtain ⟨W2, hW2⟩ : ∃ W2, W2 = (wr.alloc (.cells #[] 9)).alloc (.cells #[] 9) := ⟨_, rfl⟩
              have hB : ∃ (V' : Nat → Value) (L' : Nat → List ByteArray) (x y : Lk), Bs w W2 4 V' L' x y X Y ∧ Br x y X Y 0 ∧ V' 0 = .slice xa nX xc ∧ V' 1 = .slice ya nY yc ∧ V' 2 = .slice (some ⟨wr.heap.size, 0, none⟩) 0 0 ∧ V' 3 = .slice (some ⟨wr.heap.size + 1, 0, none⟩) 0 0 := by
                refine ⟨_, _, _, _, ⟨(by rw [hW2]; exact (H.out.1.start).start), ?_, ?_, ?_, ?_, ?_, ?_⟩, ?_, ?_, ?_, ?_, ?_⟩
                · rw [← hY]
                  refine ⟨rfl, Int.le_refl 0, Int.le_refl 0, ?_, rfl, Int.le_refl 0, Int.le_refl 0, ?_⟩
                  · show (0 : Int) ≤ X.length; omega
                  · show (0 : Int) ≤ Y.length; omega
                · rw [updR_other _ _ (by omega), updR_other _ _ (by omega)]; exact H.out.2.2.1
                · rw [updR_other _ _ (by omega), updR_other _ _ (by omega)]; exact hY.symm
                · rw [updR_other _ _ (by omega), updR_same]; rfl
                · rw [updR_same]; rfl
                · exact ⟨HXX.out.2.1, HYY.out.2, by rw [← HXX.out.1]; exact hX64, by rw [← HYY.out.1]; exact hY64⟩
                · refine ⟨?_, ?_, ?_, .inl ?_⟩ <;> (show (0 : Int) = _; simp)
                · rw [updR_other _ _ (by omega), updR_other _ _ (by omega), H.out.2.1]; exact HXX.out.2.2
                · rw [updR_other _ _ (by omega), updR_other _ _ (by omega)]; exact hvy
                · rw [updR_other _ _ (by omega), updR_same]
                · rw [updR_same]; simp
              have HB : Hid _ := hB
              rw [HXX.out.2.2, hvy]
              clear H hY hvy hnY hB hi64

              go_upto_region 18 with fail
              rw [← hW2]
              clear hW2
              obtain ⟨R, hR⟩ : ∃ R : Nat, R = max nX nY / 8 + 2 := ⟨_, rfl⟩
              have hR1 : R ≤ 10 := by omega
              have HR : Hid (R = max nX nY / 8 + 2) := hR
              clear hR
              go_wp2
              go_loopw [15, 13, 14] (fun u v z wr => ∃ (r : Nat) (V : Nat → Value) (L : Nat → List ByteArray) (x y : Lk), u = .int .i64 r ∧ v = V 2 ∧ z = V 3 ∧ r ≤ R ∧ Hid (Bs w wr 4 V L x y X Y ∧ Br x y X Y r ∧ V 0 = .slice xa nX xc ∧ V 1 = .slice ya nY yc)) (fun u _ _ _ => R - (intOf u).toNat)
              case atStart =>
                obtain ⟨V', L', x, y, h1, h2, h3, h4, h5, h6⟩ := HB.out
                exact ⟨0, V', L', x, y, rfl, h5.symm, h6.symm, Nat.zero_le _, (⟨h1, h2, h3, h4⟩ : Bs _ _ _ _ _ _ _ _ _ ∧ _ ∧ _ ∧ _)⟩
              case round =>
                obtain ⟨r, V, L, x, y, rfl, rfl, rfl, hr, H⟩ := hrel
                clear HB
                have hr0 : (0 : Int) ≤ (r : Int) := Int.natCast_nonneg _
                by_cases hlt : r < R
                · have hcase : ((nX : Int) < (nY : Int) ∧ ¬ (nY : Int) < (nX : Int) ∧ (r : Int) < (nY : Int) / 8 + 2) ∨ (¬ (nX : Int) < (nY : Int) ∧ ¬ (nY : Int) < (nX : Int) ∧ (nX : Int) = nY ∧ (r : Int) < (nX : Int) / 8 + 2) ∨ (¬ (nX : Int) < (nY : Int) ∧ (nY : Int) < (nX : Int) ∧ (r : Int) < (nX : Int) / 8 + 2) := by
                    have := HR.out
                    rcases Nat.lt_trichotomy nX nY with q | q | q
                    · exact .inl ⟨by omega, by omega, by omega⟩
                    · exact .inr (.inl ⟨by omega, by omega, by omega, by omega⟩)
                    · exact .inr (.inr ⟨by omega, by omega, by omega⟩)
                  go_upto_region 19 with fail
                  go_cut [84] (fun v wx => v = .bool true ∧ wr = wx)
                  case first =>
                    rcases hcase with ⟨hg1, hg2, hq2⟩ | ⟨hg1, hg2, hg3, hq2⟩ | ⟨hg1, hg2, hq2⟩
                    all_goals
                      go_wp2_with fail
                      all_goals
                        go_meet
                        refine ⟨congrArg Value.bool ?_, rfl⟩
                        first | (simp; omega) | simp
                  case rest =>
                    obtain ⟨rfl, hwx⟩ := hcut
                    subst hwx
                    clear hcase
                    go_wp2_with fail
                    refine (H.out.1.lr.packs_a 4 (Nat.le_refl _)).mono ?_
                    rintro e w4 ⟨pa, pc, P, rfl, hP, h4⟩
                    have hP8 : P.length ≤ 8 := by rw [bys_len hP]; exact lout_len
                    obtain ⟨nP, hnP⟩ : ∃ nP, nP = P.length := ⟨_, rfl⟩
                    rw [← hnP] at h4 hP8 ⊢
                    have HNP : Hid (nP = P.length ∧ bys P = x.out) := ⟨hnP, hP⟩
                    have H4 : Hid (Bs w w4 5 (updR V 4 (.slice pa nP pc)) (updR L 4 P) { x with owes := false } y X Y ∧ Lx x y y.acked (min X.length (8 * r)) (min Y.length (8 * r)) 0 ∧ updR V 4 (.slice pa nP pc) 0 = .slice xa nX xc ∧ updR V 4 (.slice pa nP pc) 1 = .slice ya nY yc ∧ updR V 4 (.slice pa nP pc) 4 = .slice pa nP pc ∧ updR L 4 P 4 = P ∧ V 2 = updR V 4 (.slice pa nP pc) 2 ∧ V 3 = updR V 4 (.slice pa nP pc) 3) := by
                      refine ⟨⟨h4.less (by omega), H.out.1.inv.owes false, ?_, ?_, ?_, ?_, H.out.1.bt⟩, Lx.start H.out.2.1.yc, ?_, ?_, updR_same _ _ _, updR_same _ _ _, (updR_other _ _ (by omega)).symm, (updR_other _ _ (by omega)).symm⟩
                      · rw [updR_other _ _ (by omega)]; exact H.out.1.l0
                      · rw [updR_other _ _ (by omega)]; exact H.out.1.l1
                      · rw [updR_other _ _ (by omega)]; exact H.out.1.l2
                      · rw [updR_other _ _ (by omega)]; exact H.out.1.l3
                      · rw [updR_other _ _ (by omega)]; exact H.out.2.2.1
                      · rw [updR_other _ _ (by omega)]; exact H.out.2.2.2
                    have HG : Hid (Br x y X Y r ∧ Inv x y X Y) := ⟨H.out.2.1, H.out.1.inv⟩
                    rw [H4.out.2.2.2.2.2.2.1, H4.out.2.2.2.2.2.2.2]
                    generalize updR V 4 (.slice pa nP pc) = V4 at H4
                    generalize updR L 4 P = L4 at H4
                    clear hP h4 H hnP
                    go_wp2
                    go_loopw [89, 13] (fun u v wr => ∃ (j : Nat) (V : Nat → Value) (L : Nat → List ByteArray) (y' : Lk), u = .int .i64 j ∧ v = V 2 ∧ j ≤ nP ∧ Hid (Bs w wr 5 V L { x with owes := false } y' X Y ∧ Lx x y' y.acked (min X.length (8 * r)) (min Y.length (8 * r)) j ∧ V 0 = .slice xa nX xc ∧ V 1 = .slice ya nY yc ∧ V 4 = .slice pa nP pc ∧ L 4 = P ∧ V 3 = V4 3)) (fun u _ _ => nP - (intOf u).toNat)
                    case atStart => exact ⟨0, V4, L4, y, rfl, rfl, Nat.zero_le _, (⟨H4.out.1, H4.out.2.1, H4.out.2.2.1, H4.out.2.2.2.1, H4.out.2.2.2.2.1, H4.out.2.2.2.2.2.1, rfl⟩ : Bs _ _ _ _ _ _ _ _ _ ∧ _ ∧ _ ∧ _ ∧ _ ∧ _ ∧ _)⟩
                    case round =>
                      obtain ⟨j, V, L, y', rfl, rfl, hj, H⟩ := hrel
                      clear H4
                      by_cases hltj : j < nP
                      · have hj0 : (0 : Int) ≤ (j : Int) := Int.natCast_nonneg _
                        have hj1 : (j : Int) < (nP : Int) := by omega
                        obtain ⟨g, hpa, hg, c0⟩ := H.out.1.lr.get (i := 4) (j := j) (by omega) H.out.2.2.2.2.1 (by rw [H.out.2.2.2.2.2.1, ← HNP.out.1]; exact hltj)
                        rw [H.out.2.2.2.2.2.1] at c0
                        subst hpa
                        obtain ⟨n0, s0, e0, htru, hn1, hn2⟩ := out_x HG.out.2 HNP.out.2 (j := j) (by rw [← HNP.out.1]; exact hltj)
                        obtain ⟨pj, hpj⟩ : ∃ q, q = tx P j := ⟨_, rfl⟩
                        rw [← hpj] at c0 e0
                        have hstep := H.out.2.1.step HG.out.1.xa HG.out.1.xc hn1 hn2 (T := Y) H.out.1.inv.swap.xlen (by omega) (by have := HG.out.2.y1; rw [HG.out.1.xc] at this; exact this)
                        have htru2 : Tru X ({ x with owes := false } : Lk).came n0 ((min Y.length (8 * r) : Nat) : Int) s0 := by
                          rw [← HG.out.1.xc]; exact htru
                        rw [HG.out.1.xc] at e0
                        have htk := H.out.1.lr.take_b e0 (H.out.1.bt.ok htru2 (by have := H.out.1.cs.1; omega)) (by have := H.out.1.cs.2.1; omega)
                        have hinv : Inv { x with owes := false } (y'.got n0 (min Y.length (8 * r) : Nat)) X Y := H.out.1.inv.got htru2
                        clear htru2
                        by_cases hq : x.q = []
                        · have hans := ans_no (y := y') (n0 := n0) (s0 := s0) (.inl (hn2 hq))
                          rw [hans] at htk
                          have hcm : (y'.got n0 (min Y.length (8 * r) : Nat)).came = y'.came := by rw [got_came, if_neg (fun hh => hh.1 (hn2 hq))]
                          have H5 : Hid (Calls Try.prog 9 #[.pointer (some ⟨w.heap.size + 1, 0, none⟩), .string pj] wr fun e w' => e = .returned (.tuple #[.string ByteArray.empty, .bool false, .nilIface]) ∧ Lrw w w' 5 V L { x with owes := false } (y'.got n0 (min Y.length (8 * r) : Nat))) := htk
                          have HI : Hid (Inv { x with owes := false } (y'.got n0 (min Y.length (8 * r) : Nat)) X Y ∧ Lx x (y'.got n0 (min Y.length (8 * r) : Nat)) y.acked (min X.length (8 * r)) (min Y.length (8 * r)) (j + 1) ∧ (y'.got n0 (min Y.length (8 * r) : Nat)).came = y'.came) := ⟨hinv, hstep, hcm⟩
                          clear e0 htru hn1 hn2 hpj hstep htk hinv hq hans hcm
                          go_wp2_with fail
                          refine H5.out.mono ?_
                          rintro e w6 ⟨rfl, h6⟩
                          have H6 : Hid (Bs w w6 5 V L { x with owes := false } (y'.got n0 (min Y.length (8 * r) : Nat)) X Y ∧ Lx x (y'.got n0 (min Y.length (8 * r) : Nat)) y.acked (min X.length (8 * r)) (min Y.length (8 * r)) (j + 1) ∧ V 0 = .slice xa nX xc ∧ V 1 = .slice ya nY yc ∧ V 4 = .slice (some ⟨g, 0, none⟩) nP pc ∧ L 4 = P ∧ V 3 = V4 3) :=
                            ⟨⟨h6, HI.out.1, H.out.1.l0, H.out.1.l1, by rw [HI.out.2.2]; exact H.out.1.l2, H.out.1.l3, H.out.1.bt⟩, HI.out.2.1, H.out.2.2⟩
                          clear h6 H H5 HI c0 hg
                          go_wp2
                          go_roundw
                          case rel => exact ⟨j + 1, V, L, _, by go_num, rfl, by omega, H6⟩
                          case measure => simp [intOf]; omega
                        · have hans := H.out.2.1.yes (s0 := s0) HG.out.1.xa hq hn1
                          rw [hans] at htk
                          have hn0 : n0 = y'.came ∧ 0 ≤ n0 ∧ n0 < X.length ∧ s0 = tx X n0.toNat := by
                            have h1 := hn1 hq
                            have h2 := H.out.2.1.cm
                            rw [if_neg hq] at h2
                            have h3 := HG.out.1.xa
                            rcases htru.n with q | q
                            · omega
                            · exact ⟨by omega, q.1, q.2.1, q.2.2⟩
                          have hcm : (y'.got n0 (min Y.length (8 * r) : Nat)).came = y'.came + 1 := by rw [got_came, if_pos ⟨by omega, hn0.1⟩]
                          have hrow : L 2 ++ [s0] = X.take (y'.got n0 (min Y.length (8 * r) : Nat)).came.toNat := by
                            rw [hcm, H.out.1.l2, hn0.2.2.2, ← hn0.1]
                            have e : (n0 + 1).toNat = n0.toNat + 1 := by omega
                            rw [e]; exact take_more (by omega)
                          have H5 : Hid (Calls Try.prog 9 #[.pointer (some ⟨w.heap.size + 1, 0, none⟩), .string pj] wr fun e w' => e = .returned (.tuple #[.string s0, .bool true, .nilIface]) ∧ Lrw w w' 5 V L { x with owes := false } (y'.got n0 (min Y.length (8 * r) : Nat))) := htk
                          have HI : Hid (Inv { x with owes := false } (y'.got n0 (min Y.length (8 * r) : Nat)) X Y ∧ Lx x (y'.got n0 (min Y.length (8 * r) : Nat)) y.acked (min X.length (8 * r)) (min Y.length (8 * r)) (j + 1) ∧ L 2 ++ [s0] = X.take (y'.got n0 (min Y.length (8 * r) : Nat)).came.toNat) := ⟨hinv, hstep, hrow⟩
                          have hL2 : (L 2).length ≤ 64 := by rw [H.out.1.l2, List.length_take]; have := H.out.1.bt.lx; omega
                          clear e0 htru hn1 hn2 hpj hstep htk hinv hq hans hcm hn0 hrow
                          go_wp2_with fail
                          refine H5.out.mono ?_
                          rintro e w6 ⟨rfl, h6⟩
                          have H6 : Hid (Lrw w w6 5 V L { x with owes := false } (y'.got n0 (min Y.length (8 * r) : Nat))) := h6
                          have HO : Hid ((w6.alloc (.cells #[.string s0] 9)).ownsRow (w.heap.size + 2) 9 1 (V 2) (L 2).length (txs (L 2))) := (h6.below ((Below.refl _ _).alloc (Nat.le_refl _) _)).own 2 (by omega)
                          have HS : Hid (Src Try.prog 1 22 (.slice (some ⟨w6.heap.size, 0, none⟩) 1 1) 1 [.string s0] (w6.alloc (.cells #[.string s0] 9))) := Src.ofSlice _ Try.underlying22 _ _ _ _ rfl (World.news_of_block (cs := #[.string s0]) (t := 9) (fr := (0, 0)) (heap_alloc_new w6 _)) (by simp [Value.oneCell'])
                          have hsz := h6.size
                          clear h6 H5 c0 hg
                          go_wp2_with (at_builtin; refine wpList_own_append _ rfl _ _ 22 22 rfl (w.heap.size + 2) 9 i0 _ 16 Try.underlying22 hif hz0 hz1 hz2 rfl _ _ _ rfl HO.out _ 1 [.string s0] rfl HS.out ?c3 ?c4 ?c5 ?_)
                          case c3 => unfold maxLen; omega
                          case c4 => omega
                          case c5 => simp; omega
                          intro v' w7 ha7
                          have h7 := (H6.out.below ((Below.refl _ _).alloc (Nat.le_refl _) _)).app (i := 2) (s := s0) (by omega) (by simp) (by simp [txs]) ha7
                          have H7 : Hid (Bs w w7 5 (updR V 2 v') (updR L 2 (L 2 ++ [s0])) { x with owes := false } (y'.got n0 (min Y.length (8 * r) : Nat)) X Y ∧ Lx x (y'.got n0 (min Y.length (8 * r) : Nat)) y.acked (min X.length (8 * r)) (min Y.length (8 * r)) (j + 1) ∧ updR V 2 v' 0 = .slice xa nX xc ∧ updR V 2 v' 1 = .slice ya nY yc ∧ updR V 2 v' 4 = .slice (some ⟨g, 0, none⟩) nP pc ∧ updR L 2 (L 2 ++ [s0]) 4 = P ∧ updR V 2 v' 3 = V4 3) := by
                            refine ⟨⟨h7, HI.out.1, ?_, ?_, ?_, ?_, H.out.1.bt⟩, HI.out.2.1, ?_, ?_, ?_, ?_, ?_⟩
                            · rw [updR_other _ _ (by omega)]; exact H.out.1.l0
                            · rw [updR_other _ _ (by omega)]; exact H.out.1.l1
                            · rw [updR_same]; exact HI.out.2.2
                            · rw [updR_other _ _ (by omega)]; exact H.out.1.l3
                            · rw [updR_other _ _ (by omega)]; exact H.out.2.2.1
                            · rw [updR_other _ _ (by omega)]; exact H.out.2.2.2.1
                            · rw [updR_other _ _ (by omega)]; exact H.out.2.2.2.2.1
                            · rw [updR_other _ _ (by omega)]; exact H.out.2.2.2.2.2.1
                            · rw [updR_other _ _ (by omega)]; exact H.out.2.2.2.2.2.2
                          have hv' : v' = updR V 2 v' 2 := (updR_same _ _ _).symm
                          rw [hv']
                          generalize updR V 2 v' = V7 at H7
                          generalize updR L 2 (L 2 ++ [s0]) = L7 at H7
                          clear ha7 hv' HO HS hL2 hsz H6 h7 H HI
                          go_wp2
                          go_roundw
                          case rel => exact ⟨j + 1, V7, L7, _, by go_num, rfl, by omega, H7⟩
                          case measure => simp [intOf]; omega
                      · have hj1 : ¬ (j : Int) < (nP : Int) := by omega
                        obtain rfl : j = nP := by omega
                        have hhalf := HG.out.1.half HG.out.2 (by rw [HNP.out.1, bys_len HNP.out.2]) H.out.2.1
                        have HH : Hid (y'.came = (min X.length (8 * (r + 1)) : Nat) ∧ y'.acked = (min Y.length (8 * r) : Nat) ∧ (min X.length (8 * r) = min X.length (8 * (r + 1)) ∨ y'.owes = true) ∧ x.acked = (min X.length (8 * r) : Nat) ∧ x.came = (min Y.length (8 * r) : Nat)) := ⟨hhalf.1, hhalf.2.1, hhalf.2.2, HG.out.1.xa, HG.out.1.xc⟩
                        have H7 : Hid (Bs w wr 4 V L { x with owes := false } y' X Y ∧ V 0 = .slice xa nX xc ∧ V 1 = .slice ya nY yc ∧ V4 3 = V 3) := ⟨⟨H.out.1.lr.less (by omega), H.out.1.inv, H.out.1.l0, H.out.1.l1, H.out.1.l2, H.out.1.l3, H.out.1.bt⟩, H.out.2.2.1, H.out.2.2.2.1, H.out.2.2.2.2.2.2.symm⟩
                        rw [H7.out.2.2.2]
                        clear H hhalf HNP HG
                        go_wp2_with fail
                        refine (H7.out.1.lr.packs_b 4 (Nat.le_refl _)).mono ?_
                        rintro e w8 ⟨qa, qc, Q, rfl, hQ, h8⟩
                        have hQ8 : Q.length ≤ 8 := by rw [bys_len hQ]; exact lout_len
                        obtain ⟨nQ, hnQ⟩ : ∃ nQ, nQ = Q.length := ⟨_, rfl⟩
                        rw [← hnQ] at h8 hQ8 ⊢
                        have HNQ : Hid (nQ = Q.length ∧ bys Q = y'.out ∧ Inv y' { x with owes := false } Y X) := ⟨hnQ, hQ, H7.out.1.inv.swap⟩
                        have H8 : Hid (Bs w w8 5 (updR V 4 (.slice qa nQ qc)) (updR L 4 Q) { x with owes := false } { y' with owes := false } X Y ∧ Lx y' { x with owes := false } (min X.length (8 * r) : Nat) (min Y.length (8 * r)) (min X.length (8 * (r + 1))) 0 ∧ updR V 4 (.slice qa nQ qc) 0 = .slice xa nX xc ∧ updR V 4 (.slice qa nQ qc) 1 = .slice ya nY yc ∧ updR V 4 (.slice qa nQ qc) 4 = .slice qa nQ qc ∧ updR L 4 Q 4 = Q ∧ V 2 = updR V 4 (.slice qa nQ qc) 2 ∧ V 3 = updR V 4 (.slice qa nQ qc) 3) := by
                          refine ⟨⟨h8.less (by omega), (H7.out.1.inv.swap.owes false).swap, ?_, ?_, ?_, ?_, H7.out.1.bt⟩, ?_, ?_, ?_, updR_same _ _ _, updR_same _ _ _, (updR_other _ _ (by omega)).symm, (updR_other _ _ (by omega)).symm⟩
                          · rw [updR_other _ _ (by omega)]; exact H7.out.1.l0
                          · rw [updR_other _ _ (by omega)]; exact H7.out.1.l1
                          · rw [updR_other _ _ (by omega)]; exact H7.out.1.l2
                          · rw [updR_other _ _ (by omega)]; exact H7.out.1.l3
                          · exact Lx.start2 (s := y') (t := { x with owes := false }) HH.out.2.2.2.2 HH.out.2.2.2.1
                          · rw [updR_other _ _ (by omega)]; exact H7.out.2.1
                          · rw [updR_other _ _ (by omega)]; exact H7.out.2.2.1
                        rw [H8.out.2.2.2.2.2.2.1, H8.out.2.2.2.2.2.2.2]
                        generalize updR V 4 (.slice qa nQ qc) = V8 at H8
                        generalize updR L 4 Q = L8 at H8
                        clear hQ h8 H7 hnQ
                        go_wp2
                        go_loopw [109, 14] (fun u v wr => ∃ (j : Nat) (V : Nat → Value) (L : Nat → List ByteArray) (x' : Lk), u = .int .i64 j ∧ v = V 3 ∧ j ≤ nQ ∧ Hid (Bs w wr 5 V L x' { y' with owes := false } X Y ∧ Lx y' x' (min X.length (8 * r) : Nat) (min Y.length (8 * r)) (min X.length (8 * (r + 1))) j ∧ V 0 = .slice xa nX xc ∧ V 1 = .slice ya nY yc ∧ V 4 = .slice qa nQ qc ∧ L 4 = Q ∧ V 2 = V8 2)) (fun u _ _ => nQ - (intOf u).toNat)
                        case atStart => exact ⟨0, V8, L8, _, rfl, rfl, Nat.zero_le _, (⟨H8.out.1, H8.out.2.1, H8.out.2.2.1, H8.out.2.2.2.1, H8.out.2.2.2.2.1, H8.out.2.2.2.2.2.1, rfl⟩ : Bs _ _ _ _ _ _ _ _ _ ∧ _ ∧ _ ∧ _ ∧ _ ∧ _ ∧ _)⟩
                        case round =>
                          obtain ⟨k, V, L, x', rfl, rfl, hk, H⟩ := hrel
                          clear H8
                          by_cases hltk : k < nQ
                          · have hk0 : (0 : Int) ≤ (k : Int) := Int.natCast_nonneg _
                            have hk1 : (k : Int) < (nQ : Int) := by omega
                            obtain ⟨g, hqa, hg, c0⟩ := H.out.1.lr.get (i := 4) (j := k) (by omega) H.out.2.2.2.2.1 (by rw [H.out.2.2.2.2.2.1, ← HNQ.out.1]; exact hltk)
                            rw [H.out.2.2.2.2.2.1] at c0
                            subst hqa
                            obtain ⟨n0, s0, e0, htru, hn1, hn2⟩ := out_x HNQ.out.2.2 HNQ.out.2.1 (j := k) (by rw [← HNQ.out.1]; exact hltk)
                            obtain ⟨pj, hpj⟩ : ∃ q, q = tx Q k := ⟨_, rfl⟩
                            rw [← hpj] at c0 e0
                            have hstep := H.out.2.1.step HH.out.2.1 HH.out.1 hn1 hn2 (T := X) H.out.1.inv.xlen (by omega) (by omega)
                            have htru2 : Tru Y ({ y' with owes := false } : Lk).came n0 ((min X.length (8 * (r + 1)) : Nat) : Int) s0 := by
                              rw [← HH.out.1]; exact htru
                            rw [HH.out.1] at e0
                            have htk := H.out.1.lr.take_a e0 (H.out.1.bt.swap.ok htru2 (by have := H.out.1.cs.2.1; omega)) (by have := H.out.1.cs.1; omega)
                            have hinv : Inv (x'.got n0 (min X.length (8 * (r + 1)) : Nat)) { y' with owes := false } X Y := (H.out.1.inv.swap.got htru2).swap
                            clear htru2
                            by_cases hq : y'.q = []
                            · have hans := ans_no (y := x') (n0 := n0) (s0 := s0) (.inl (hn2 hq))
                              rw [hans] at htk
                              have hcm : (x'.got n0 (min X.length (8 * (r + 1)) : Nat)).came = x'.came := by rw [got_came, if_neg (fun hh => hh.1 (hn2 hq))]
                              have H5 : Hid (Calls Try.prog 9 #[.pointer (some ⟨w.heap.size, 0, none⟩), .string pj] wr fun e w' => e = .returned (.tuple #[.string ByteArray.empty, .bool false, .nilIface]) ∧ Lrw w w' 5 V L (x'.got n0 (min X.length (8 * (r + 1)) : Nat)) { y' with owes := false }) := htk
                              have HI : Hid (Inv (x'.got n0 (min X.length (8 * (r + 1)) : Nat)) { y' with owes := false } X Y ∧ Lx y' (x'.got n0 (min X.length (8 * (r + 1)) : Nat)) (min X.length (8 * r) : Nat) (min Y.length (8 * r)) (min X.length (8 * (r + 1))) (k + 1) ∧ (x'.got n0 (min X.length (8 * (r + 1)) : Nat)).came = x'.came) := ⟨hinv, hstep, hcm⟩
                              clear e0 htru hn1 hn2 hpj hstep htk hinv hq hans hcm
                              go_wp2_with fail
                              refine H5.out.mono ?_
                              rintro e w6 ⟨rfl, h6⟩
                              have H6 : Hid (Bs w w6 5 V L (x'.got n0 (min X.length (8 * (r + 1)) : Nat)) { y' with owes := false } X Y ∧ Lx y' (x'.got n0 (min X.length (8 * (r + 1)) : Nat)) (min X.length (8 * r) : Nat) (min Y.length (8 * r)) (min X.length (8 * (r + 1))) (k + 1) ∧ V 0 = .slice xa nX xc ∧ V 1 = .slice ya nY yc ∧ V 4 = .slice (some ⟨g, 0, none⟩) nQ qc ∧ L 4 = Q ∧ V 2 = V8 2) :=
                                ⟨⟨h6, HI.out.1, H.out.1.l0, H.out.1.l1, H.out.1.l2, by rw [HI.out.2.2]; exact H.out.1.l3, H.out.1.bt⟩, HI.out.2.1, H.out.2.2⟩
                              clear h6 H H5 HI c0 hg
                              go_wp2
                              go_roundw
                              case rel => exact ⟨k + 1, V, L, _, by go_num, rfl, by omega, H6⟩
                              case measure => simp [intOf]; omega
                            · have hans := H.out.2.1.yes (s0 := s0) HH.out.2.1 hq hn1
                              rw [hans] at htk
                              have hn0 : n0 = x'.came ∧ 0 ≤ n0 ∧ n0 < Y.length ∧ s0 = tx Y n0.toNat := by
                                have h1 := hn1 hq
                                have h2 := H.out.2.1.cm
                                rw [if_neg hq] at h2
                                have h3 := HH.out.2.1
                                rcases htru.n with q | q
                                · omega
                                · exact ⟨by omega, q.1, q.2.1, q.2.2⟩
                              have hcm : (x'.got n0 (min X.length (8 * (r + 1)) : Nat)).came = x'.came + 1 := by rw [got_came, if_pos ⟨by omega, hn0.1⟩]
                              have hrow : L 3 ++ [s0] = Y.take (x'.got n0 (min X.length (8 * (r + 1)) : Nat)).came.toNat := by
                                rw [hcm, H.out.1.l3, hn0.2.2.2, ← hn0.1]
                                have e : (n0 + 1).toNat = n0.toNat + 1 := by omega
                                rw [e]; exact take_more (by omega)
                              have H5 : Hid (Calls Try.prog 9 #[.pointer (some ⟨w.heap.size, 0, none⟩), .string pj] wr fun e w' => e = .returned (.tuple #[.string s0, .bool true, .nilIface]) ∧ Lrw w w' 5 V L (x'.got n0 (min X.length (8 * (r + 1)) : Nat)) { y' with owes := false }) := htk
                              have HI : Hid (Inv (x'.got n0 (min X.length (8 * (r + 1)) : Nat)) { y' with owes := false } X Y ∧ Lx y' (x'.got n0 (min X.length (8 * (r + 1)) : Nat)) (min X.length (8 * r) : Nat) (min Y.length (8 * r)) (min X.length (8 * (r + 1))) (k + 1) ∧ L 3 ++ [s0] = Y.take (x'.got n0 (min X.length (8 * (r + 1)) : Nat)).came.toNat) := ⟨hinv, hstep, hrow⟩
                              have hL3 : (L 3).length ≤ 64 := by rw [H.out.1.l3, List.length_take]; have := H.out.1.bt.ly; omega
                              clear e0 htru hn1 hn2 hpj hstep htk hinv hq hans hcm hn0 hrow
                              go_wp2_with fail
                              refine H5.out.mono ?_
                              rintro e w6 ⟨rfl, h6⟩
                              have H6 : Hid (Lrw w w6 5 V L (x'.got n0 (min X.length (8 * (r + 1)) : Nat)) { y' with owes := false }) := h6
                              have HO : Hid ((w6.alloc (.cells #[.string s0] 9)).ownsRow (w.heap.size + 2) 9 1 (V 3) (L 3).length (txs (L 3))) := (h6.below ((Below.refl _ _).alloc (Nat.le_refl _) _)).own 3 (by omega)
                              have HS : Hid (Src Try.prog 1 22 (.slice (some ⟨w6.heap.size, 0, none⟩) 1 1) 1 [.string s0] (w6.alloc (.cells #[.string s0] 9))) := Src.ofSlice _ Try.underlying22 _ _ _ _ rfl (World.news_of_block (cs := #[.string s0]) (t := 9) (fr := (0, 0)) (heap_alloc_new w6 _)) (by simp [Value.oneCell'])
                              have hsz := h6.size
                              clear h6 H5 c0 hg
                              go_wp2_with (at_builtin; refine wpList_own_append _ rfl _ _ 22 22 rfl (w.heap.size + 2) 9 i0 _ 16 Try.underlying22 hif hz0 hz1 hz2 rfl _ _ _ rfl HO.out _ 1 [.string s0] rfl HS.out ?c3 ?c4 ?c5 ?_)
                              case c3 => unfold maxLen; omega
                              case c4 => omega
                              case c5 => simp; omega
                              intro v' w7 ha7
                              have h7 := (H6.out.below ((Below.refl _ _).alloc (Nat.le_refl _) _)).app (i := 3) (s := s0) (by omega) (by simp) (by simp [txs]) ha7
                              have H7 : Hid (Bs w w7 5 (updR V 3 v') (updR L 3 (L 3 ++ [s0])) (x'.got n0 (min X.length (8 * (r + 1)) : Nat)) { y' with owes := false } X Y ∧ Lx y' (x'.got n0 (min X.length (8 * (r + 1)) : Nat)) (min X.length (8 * r) : Nat) (min Y.length (8 * r)) (min X.length (8 * (r + 1))) (k + 1) ∧ updR V 3 v' 0 = .slice xa nX xc ∧ updR V 3 v' 1 = .slice ya nY yc ∧ updR V 3 v' 4 = .slice (some ⟨g, 0, none⟩) nQ qc ∧ updR L 3 (L 3 ++ [s0]) 4 = Q ∧ updR V 3 v' 2 = V8 2) := by
                                refine ⟨⟨h7, HI.out.1, ?_, ?_, ?_, ?_, H.out.1.bt⟩, HI.out.2.1, ?_, ?_, ?_, ?_, ?_⟩
                                · rw [updR_other _ _ (by omega)]; exact H.out.1.l0
                                · rw [updR_other _ _ (by omega)]; exact H.out.1.l1
                                · rw [updR_other _ _ (by omega)]; exact H.out.1.l2
                                · rw [updR_same]; exact HI.out.2.2
                                · rw [updR_other _ _ (by omega)]; exact H.out.2.2.1
                                · rw [updR_other _ _ (by omega)]; exact H.out.2.2.2.1
                                · rw [updR_other _ _ (by omega)]; exact H.out.2.2.2.2.1
                                · rw [updR_other _ _ (by omega)]; exact H.out.2.2.2.2.2.1
                                · rw [updR_other _ _ (by omega)]; exact H.out.2.2.2.2.2.2
                              have hv' : v' = updR V 3 v' 3 := (updR_same _ _ _).symm
                              rw [hv']
                              generalize updR V 3 v' = V7 at H7
                              generalize updR L 3 (L 3 ++ [s0]) = L7 at H7
                              clear ha7 hv' HO HS hL3 hsz H6 h7 H HI
                              go_wp2
                              go_roundw
                              case rel => exact ⟨k + 1, V7, L7, _, by go_num, rfl, by omega, H7⟩
                              case measure => simp [intOf]; omega
                          · have hk1 : ¬ (k : Int) < (nQ : Int) := by omega
                            obtain rfl : k = nQ := by omega
                            have hnext := Br.next HNQ.out.2.2 (by rw [HNQ.out.1, bys_len HNQ.out.2.1]) HH.out.1 HH.out.2.1 HH.out.2.2.1 H.out.2.1
                            have H9 : Hid (Bs w wr 4 V L x' { y' with owes := false } X Y ∧ Br x' { y' with owes := false } X Y (r + 1) ∧ V 0 = .slice xa nX xc ∧ V 1 = .slice ya nY yc) := ⟨⟨H.out.1.lr.less (by omega), H.out.1.inv, H.out.1.l0, H.out.1.l1, H.out.1.l2, H.out.1.l3, H.out.1.bt⟩, hnext, H.out.2.2.1, H.out.2.2.2.1⟩
                            have HV : Hid (V8 2 = V 2) := H.out.2.2.2.2.2.2.symm
                            clear H hnext HNQ HH
                            rw [HV.out]
                            go_wp2
                            go_roundw
                            case rel => exact ⟨r + 1, V, L, _, _, by go_num, rfl, rfl, by omega, H9⟩
                            case measure => simp [intOf]; omega
                · have hcase : ((nX : Int) < (nY : Int) ∧ ¬ (nY : Int) < (nX : Int) ∧ ¬ (r : Int) < (nY : Int) / 8 + 2) ∨ (¬ (nX : Int) < (nY : Int) ∧ ¬ (nY : Int) < (nX : Int) ∧ (nX : Int) = nY ∧ ¬ (r : Int) < (nX : Int) / 8 + 2) ∨ (¬ (nX : Int) < (nY : Int) ∧ (nY : Int) < (nX : Int) ∧ ¬ (r : Int) < (nX : Int) / 8 + 2) := by
                    have := HR.out
                    rcases Nat.lt_trichotomy nX nY with q | q | q
                    · exact .inl ⟨by omega, by omega, by omega⟩
                    · exact .inr (.inl ⟨by omega, by omega, by omega, by omega⟩)
                    · exact .inr (.inr ⟨by omega, by omega, by omega⟩)
                  go_upto_region 19 with fail
                  go_cut [84] (fun v wx => v = .bool false ∧ wr = wx)
                  case first =>
                    rcases hcase with ⟨hg1, hg2, hq2⟩ | ⟨hg1, hg2, hg3, hq2⟩ | ⟨hg1, hg2, hq2⟩
                    all_goals
                      go_wp2_with fail
                      all_goals
                        go_meet
                        refine ⟨congrArg Value.bool ?_, rfl⟩
                        first | (simp; omega) | simp
                  case rest =>
                    obtain ⟨rfl, hwx⟩ := hcut
                    subst hwx
                    have hmin : min X.length (8 * r) = X.length ∧ min Y.length (8 * r) = Y.length := by
                      have := HR.out; have := HXX.out.1; have := HYY.out.1; omega
                    clear hcase
                    go_wp2_with fail
                    refine (H.out.1.lr.packs_a 4 (Nat.le_refl _)).mono ?_
                    rintro e w4 ⟨pa, pc, P, rfl, hP, h4⟩
                    have hP8 : P.length ≤ 8 := by rw [bys_len hP]; exact lout_len
                    obtain ⟨nP, hnP⟩ : ∃ nP, nP = P.length := ⟨_, rfl⟩
                    rw [← hnP] at h4 hP8 ⊢
                    have HNP : Hid (nP = P.length ∧ bys P = x.out ∧ min X.length (8 * r) = X.length ∧ min Y.length (8 * r) = Y.length) := ⟨hnP, hP, hmin⟩
                    have H4 : Hid (Bs w w4 5 (updR V 4 (.slice pa nP pc)) (updR L 4 P) { x with owes := false } y X Y ∧ Lx x y y.acked (min X.length (8 * r)) (min Y.length (8 * r)) 0 ∧ updR V 4 (.slice pa nP pc) 0 = .slice xa nX xc ∧ updR V 4 (.slice pa nP pc) 1 = .slice ya nY yc ∧ updR V 4 (.slice pa nP pc) 4 = .slice pa nP pc ∧ updR L 4 P 4 = P ∧ V 2 = updR V 4 (.slice pa nP pc) 2 ∧ V 3 = updR V 4 (.slice pa nP pc) 3) := by
                      refine ⟨⟨h4.less (by omega), H.out.1.inv.owes false, ?_, ?_, ?_, ?_, H.out.1.bt⟩, Lx.start H.out.2.1.yc, ?_, ?_, updR_same _ _ _, updR_same _ _ _, (updR_other _ _ (by omega)).symm, (updR_other _ _ (by omega)).symm⟩
                      · rw [updR_other _ _ (by omega)]; exact H.out.1.l0
                      · rw [updR_other _ _ (by omega)]; exact H.out.1.l1
                      · rw [updR_other _ _ (by omega)]; exact H.out.1.l2
                      · rw [updR_other _ _ (by omega)]; exact H.out.1.l3
                      · rw [updR_other _ _ (by omega)]; exact H.out.2.2.1
                      · rw [updR_other _ _ (by omega)]; exact H.out.2.2.2
                    have HG : Hid (Br x y X Y r ∧ Inv x y X Y) := ⟨H.out.2.1, H.out.1.inv⟩
                    rw [H4.out.2.2.2.2.2.2.1, H4.out.2.2.2.2.2.2.2]
                    generalize updR V 4 (.slice pa nP pc) = V4 at H4
                    generalize updR L 4 P = L4 at H4
                    clear hP h4 H hnP hmin
                    go_wp2
                    go_loopw [129] (fun u wr => ∃ (j : Nat) (y' : Lk), u = .int .i64 j ∧ j ≤ nP ∧ Hid (Bs w wr 5 V4 L4 { x with owes := false } y' X Y ∧ Lx x y' y.acked (min X.length (8 * r)) (min Y.length (8 * r)) j ∧ V4 0 = .slice xa nX xc ∧ V4 1 = .slice ya nY yc ∧ V4 4 = .slice pa nP pc ∧ L4 4 = P)) (fun u _ => nP - (intOf u).toNat)
                    case atStart => exact ⟨0, y, rfl, Nat.zero_le _, (⟨H4.out.1, H4.out.2.1, H4.out.2.2.1, H4.out.2.2.2.1, H4.out.2.2.2.2.1, H4.out.2.2.2.2.2.1⟩ : Bs _ _ _ _ _ _ _ _ _ ∧ _ ∧ _ ∧ _ ∧ _ ∧ _)⟩
                    case round =>
                      obtain ⟨j, y', rfl, hj, H⟩ := hrel
                      clear H4
                      by_cases hltj : j < nP
                      · have hj0 : (0 : Int) ≤ (j : Int) := Int.natCast_nonneg _
                        have hj1 : (j : Int) < (nP : Int) := by omega
                        obtain ⟨g, hpa, hg, c0⟩ := H.out.1.lr.get (i := 4) (j := j) (by omega) H.out.2.2.2.2.1 (by rw [H.out.2.2.2.2.2, ← HNP.out.1]; exact hltj)
                        rw [H.out.2.2.2.2.2] at c0
                        subst hpa
                        obtain ⟨n0, s0, e0, htru, hn1, hn2⟩ := out_x HG.out.2 HNP.out.2.1 (j := j) (by rw [← HNP.out.1]; exact hltj)
                        obtain ⟨pj, hpj⟩ : ∃ q, q = tx P j := ⟨_, rfl⟩
                        rw [← hpj] at c0 e0
                        have hstep := H.out.2.1.step HG.out.1.xa HG.out.1.xc hn1 hn2 (T := Y) H.out.1.inv.swap.xlen (by omega) (by have := HG.out.2.y1; rw [HG.out.1.xc] at this; exact this)
                        have htru2 : Tru X ({ x with owes := false } : Lk).came n0 ((min Y.length (8 * r) : Nat) : Int) s0 := by
                          rw [← HG.out.1.xc]; exact htru
                        rw [HG.out.1.xc] at e0
                        have htk := H.out.1.lr.take_b e0 (H.out.1.bt.ok htru2 (by have := H.out.1.cs.1; omega)) (by have := H.out.1.cs.2.1; omega)
                        have hinv : Inv { x with owes := false } (y'.got n0 (min Y.length (8 * r) : Nat)) X Y := H.out.1.inv.got htru2
                        clear htru2
                        have hq : x.q = [] := by
                          have h1 := HG.out.2.xlen
                          have h2 := HG.out.1.xa
                          have h3 := HNP.out.2.2.1
                          exact List.eq_nil_of_length_eq_zero (by omega)
                        have hcm : (y'.got n0 (min Y.length (8 * r) : Nat)).came = y'.came := by rw [got_came, if_neg (fun hh => hh.1 (hn2 hq))]
                        have H5 : Hid (Calls Try.prog 9 #[.pointer (some ⟨w.heap.size + 1, 0, none⟩), .string pj] wr fun e w' => (∃ z, e = .returned z) ∧ Lrw w w' 5 V4 L4 { x with owes := false } (y'.got n0 (min Y.length (8 * r) : Nat))) := by
                          refine htk.mono ?_
                          rintro e w' ⟨rfl, h⟩
                          exact ⟨⟨_, rfl⟩, h⟩
                        have HI : Hid (Inv { x with owes := false } (y'.got n0 (min Y.length (8 * r) : Nat)) X Y ∧ Lx x (y'.got n0 (min Y.length (8 * r) : Nat)) y.acked (min X.length (8 * r)) (min Y.length (8 * r)) (j + 1) ∧ (y'.got n0 (min Y.length (8 * r) : Nat)).came = y'.came) := ⟨hinv, hstep, hcm⟩
                        clear e0 htru hn1 hn2 hpj hstep htk hinv hq hcm
                        go_wp2_with fail
                        refine H5.out.mono ?_
                        rintro e w6 ⟨⟨z6, rfl⟩, h6⟩
                        have H6 : Hid (Bs w w6 5 V4 L4 { x with owes := false } (y'.got n0 (min Y.length (8 * r) : Nat)) X Y ∧ Lx x (y'.got n0 (min Y.length (8 * r) : Nat)) y.acked (min X.length (8 * r)) (min Y.length (8 * r)) (j + 1) ∧ V4 0 = .slice xa nX xc ∧ V4 1 = .slice ya nY yc ∧ V4 4 = .slice (some ⟨g, 0, none⟩) nP pc ∧ L4 4 = P) :=
                          ⟨⟨h6, HI.out.1, H.out.1.l0, H.out.1.l1, by rw [HI.out.2.2]; exact H.out.1.l2, H.out.1.l3, H.out.1.bt⟩, HI.out.2.1, H.out.2.2⟩
                        clear h6 H H5 HI c0 hg
                        go_wp2
                        go_roundw
                        case rel => exact ⟨j + 1, _, by go_num, by omega, H6⟩
                        case measure => simp [intOf]; omega
                      · have hj1 : ¬ (j : Int) < (nP : Int) := by omega
                        obtain rfl : j = nP := by omega
                        have hhalf := HG.out.1.half HG.out.2 (by rw [HNP.out.1, bys_len HNP.out.2.1]) H.out.2.1
                        have hyq : y'.q.length = 0 := by
                          have h1 := H.out.1.inv.swap.xlen
                          rw [hhalf.2.1] at h1
                          have := HNP.out.2.2.2
                          omega
                        have hxq : x.q.length = 0 := by
                          have h1 := HG.out.2.xlen
                          have h2 := HG.out.1.xa
                          have h3 := HNP.out.2.2.1
                          omega
                        have hl2 : L4 2 = L4 0 := by
                          have h1 := H.out.1.cs
                          have h2 := hhalf.1
                          have h3 := HNP.out.2.2.1
                          rw [H.out.1.l2, H.out.1.l0, List.take_of_length_le (by omega)]
                        have hl3 : L4 3 = L4 1 := by
                          have h2 := HG.out.1.xc
                          have h3 := HNP.out.2.2.2
                          rw [H.out.1.l3, H.out.1.l1, List.take_of_length_le (by show Y.length ≤ x.came.toNat; omega)]
                        obtain ⟨ta, tc, ht⟩ := H.out.1.lr.shape (i := 2) (by omega)
                        obtain ⟨ha, hc, hh⟩ := H.out.1.lr.shape (i := 3) (by omega)
                        rw [hl2, H.out.1.l0, ← HXX.out.1] at ht
                        rw [hl3, H.out.1.l1, ← HYY.out.1] at hh
                        rw [ht, hh]
                        have H9 : Hid (Bs w wr 5 V4 L4 { x with owes := false } y' X Y ∧ V4 0 = .slice xa nX xc ∧ V4 1 = .slice ya nY yc ∧ V4 2 = .slice ta nX tc ∧ V4 3 = .slice ha nY hc ∧ L4 2 = L4 0 ∧ L4 3 = L4 1 ∧ x.q.length = 0 ∧ y'.q.length = 0) := ⟨H.out.1, H.out.2.2.1, H.out.2.2.2.1, ht, hh, hl2, hl3, hxq, hyq⟩
                        clear H hhalf hyq hxq hl2 hl3 ht hh HG HNP
                        go_wp2_with fail
                        refine (lawake_any _).mono ?_
                        rintro e w10 ⟨rfl, hb10⟩
                        have H10 : Hid (Lrw w w10 5 V4 L4 { x with owes := false } y') := H9.out.1.lr.below hb10
                        clear hb10
                        go_wp2_with fail
                        refine (texts4 H10.out 2 0 (by omega) (by omega) H9.out.2.2.2.2.2.1 ta xa nX tc xc H9.out.2.2.2.1 H9.out.2.1 (by rw [H9.out.2.2.2.2.2.1, H9.out.1.l0, ← HXX.out.1]) (by omega)).mono ?_
                        rintro e w11 ⟨rfl, hb11⟩
                        have H11 : Hid (Lrw w w11 5 V4 L4 { x with owes := false } y') := H10.out.below hb11
                        clear hb11 H10
                        go_wp2_with fail
                        refine (texts4 H11.out 3 1 (by omega) (by omega) H9.out.2.2.2.2.2.2.1 ha ya nY hc yc H9.out.2.2.2.2.1 H9.out.2.2.1 (by rw [H9.out.2.2.2.2.2.2.1, H9.out.1.l1, ← HYY.out.1]) (by omega)).mono ?_
                        rintro e w12 ⟨rfl, hb12⟩
                        have H12 : Lrw w w12 5 V4 L4 { x with owes := false } y' := H11.out.below hb12
                        obtain ⟨pa', pc', p0, _⟩ := H12.two.a.q
                        obtain ⟨qa', qc', q0, _⟩ := H12.two.b.q
                        have e1 : ({ x with owes := false } : Lk).q.length = 0 := H9.out.2.2.2.2.2.2.2.1
                        rw [e1] at p0
                        rw [H9.out.2.2.2.2.2.2.2.2] at q0
                        have l0 := H12.two.a.lt
                        have l1 := H12.two.b.lt
                        have hbe := H12.bel
                        clear H12 hb12 H9 H11
                        go_wp2
                        go_ret
                        exact ⟨rfl, hbe⟩

/-! ### The row's step -/
set_option maxRecDepth 100000 in
theorem lifted (os : Os) (started : os.Started) (H : Type) (enc : TypeId × Value → H) :
    ReturnsInHanded {} Try.checked os 3 .any (Rows.linkBringsSpec.pre6 enc Try.prog Try.f3 Rows.linkBringsRow.domain false) (Rows.linkBringsSpec.post enc Try.prog Try.f3 false true false false) := by
  refine returnsInHanded_of_change (C := Try.checked) own started (by kernel_rfl) Try.func3
    (ChangeSpec.witness6 (enc := enc) (C := Try.checked) false ⟨#[], #[.slice none 0 0, .slice none 0 0], []⟩ 8 (by kernel_rfl) (by kernel_rfl) (by kernel_rfl) (by kernel_rfl)) ?_
  intro W base args ds gs before hval0 hW hcnd _
  have hval : ∀ (j : Nat) t v, Try.f3.params[j]? = some t → args[j]? = some v → Value.okWide Try.prog W .any base t v := hval0
  have hW' := hW
  obtain ⟨p, q, hA0, hV, rfl, hfz, hnd⟩ := hW
  have hA : DataW.TrodAll enc Try.prog W 0 (fun _ => true) true Try.f3.params.toList args.toList ds p := hA0
  rw [Try.params3] at hA hval
  obtain ⟨v0, vs0, d0, ds0, p0, q0, hargs, rfl, rfl, h0, r0⟩ := trodAll_cons hA
  obtain ⟨v1, vs1, d1, ds1, p1, q1, rfl, rfl, rfl, h1, r1⟩ := trodAll_cons r0
  obtain ⟨rfl, rfl, rfl⟩ := trodAll_nil r1
  obtain rfl : args = #[v0, v1] := by cases args; simp_all
  obtain ⟨rfl, rfl⟩ := trodVars_none hV
  obtain ⟨a0, len0, cap0, rfl⟩ := okWide_slice Try.underlying22 (hval 0 22 v0 rfl rfl)
  have k0 := h0
  have lt0 : ∀ x ∈ p0, x.block < W.heap.size := by obtain ⟨m, hm⟩ := k0; exact DataW.trod_lt m _ _ _ hm
  obtain ⟨t0, w0⟩ : ∃ ts, InRow 1 encS okS ByteArray.empty W a0 len0 ts := by
    obtain ⟨fuel, hf⟩ := h0
    exact inrow_of 1 encS okS ByteArray.empty 22 9 Try.underlying22 cellsS1 (by omega) lenS (fun n cs x => str_of n cs x) hf
  obtain ⟨a1, len1, cap1, rfl⟩ := okWide_slice Try.underlying22 (hval 1 22 v1 rfl rfl)
  have k1 := h1
  have lt1 : ∀ x ∈ p1, x.block < W.heap.size := by obtain ⟨m, hm⟩ := k1; exact DataW.trod_lt m _ _ _ hm
  obtain ⟨t1, w1⟩ : ∃ ts, InRow 1 encS okS ByteArray.empty W a1 len1 ts := by
    obtain ⟨fuel, hf⟩ := h1
    exact inrow_of 1 encS okS ByteArray.empty 22 9 Try.underlying22 cellsS1 (by omega) lenS (fun n cs x => str_of n cs x) hf
  clear hA0 hval0
  refine (walk a0 len0 cap0 t0 a1 len1 cap1 t1 W w0 w1).mono fun e W' ⟨he, bel⟩ => ?_
  subst he
  exact ⟨_, rfl, _, _, _, [], _, [], hW', trodAll_mk1 (shut_bool Try.underlying4 _), (trodAll_cons_mk (Below.trod laidOut (by kernel_rfl) (of_decide_eq_true (by kernel_rfl)) k0 bel lt0) (trodAll_cons_mk (Below.trod laidOut (by kernel_rfl) (of_decide_eq_true (by kernel_rfl)) k1 bel lt1) trodAll_mk0)), rfl, bel.frame _, fun h => by cases h⟩

theorem over : Rows.linkBringsRow.holds Try.pinned (OpenSpec.ofChange Rows.linkBringsSpec) :=
  OpenClaim.holds_of_wide 3 Try.f3 rfl rfl rfl rfl rfl rfl rfl ⟨rfl, rfl, rfl, rfl, rfl⟩ rfl rfl rfl rfl rfl (by kernel_rfl) Try.func3 (by kernel_rfl)
    (of_decide_eq_true (by kernel_rfl)) (by unfold Func.isWrapper; first | (rw [if_pos (by decide +kernel)]; kernel_rfl) | (rw [if_neg (by decide +kernel)]; exact ⟨rfl, rfl⟩))
    (fun os started H enc _ => lifted os started H enc)

end Go.Proofs.Ytgbdnclolgdojaa.linkBrings

namespace Go.Proofs.Ytgbdnclolgdojaa
/-- Proved: for any two lists of texts, LinkBrings answers true (packets that all arrive, to and fro, bring over all that waits; of at most 64 texts on each side, in so many rounds). -/
theorem linkBrings_holds : Rows.LinkBringsSaid := linkBrings.over
#print axioms linkBrings_holds
end Go.Proofs.Ytgbdnclolgdojaa
