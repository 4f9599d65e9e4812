/- Proved: for every list of texts, LinkLate answers true (packets that come late, behind all others, change nothing any more; of at most 30 texts).
  The frame is the guide's own shell (proof-skeleton.mjs) at this function; the walk and all ahead of it are mine. -/
import Derived.Test.YtgbdnclolgdojaaRows
import Derived.Test.YtgbdnclolgdojaaLinkLr2
import Derived.Laws.OwnMore
import Derived.Deep.LoopGhost
import Derived.Deep.CutBlock
import Derived.Deep.DeepCutAuto
import Derived.Deep.QuietTactic
import Derived.BigQuiet
import Derived.WalkKit
import Derived.WalkLawsBesides
import Derived.ProofKit
import Derived.OpenShut
import Derived.ShutString
import Derived.ChangeOld
import Derived.Below
namespace Go.Proofs.Ytgbdnclolgdojaa.linkLate
open Go.ChangeShapes Go.WideShapes Go.ChangeAt Go.RowKit
open Go.ChangeMaps (open_string shut_string)
set_option linter.unusedVariables false

theorem own : ownKnob Try.prog.godebug = none := by kernel_rfl
theorem laidOut : laidOutB Try.prog = true := by kernel_rfl


/-! ### STEP 1: the walk -/
set_option maxRecDepth 100000 in
set_option maxHeartbeats 20000000 in
theorem walk (a0 : Option Addr) (len0 cap0 : Nat) (t0 : List ByteArray) (w : World) (w0 : InRow 1 encS okS ByteArray.empty w a0 len0 t0) :
    Calls Try.prog 4 #[.slice a0 len0 cap0] w fun e w' => e = .returned (.bool true) ∧ Below w.heap.size w w' := by
  have hmx0 := w0.2.1
  have HX : Hid (InRow 1 encS okS ByteArray.empty w a0 len0 t0) := w0
  clear w0
  obtain ⟨i0, hif, hz0, hz1, hz2⟩ := info_parts Try.infoStr
  obtain ⟨W0, hW0⟩ : ∃ W0, W0 = ((w.alloc (.cells #[.slice none 0 0, .int .i64 0, .int .i64 0, .bool false] 24)).alloc (.cells #[.slice none 0 0, .int .i64 0, .int .i64 0, .bool false] 24)).alloc (.cells #[] 9) := ⟨_, rfl⟩
  have H0 : Hid (Lrw w W0 1 (fun _ => .slice (some ⟨w.heap.size + 2, 0, none⟩) 0 0) (fun _ => []) lk0 lk0) := (by
    rw [hW0]
    refine ((Lrw.new w).start).ext (fun i hi => ?_) (fun i hi => ?_)
    · obtain rfl : i = 0 := by omega
      rw [updR_same]; simp
    · obtain rfl : i = 0 := by omega
      rw [updR_same] : Lrw w W0 1 (fun _ => .slice (some ⟨w.heap.size + 2, 0, none⟩) 0 0) (fun _ => []) lk0 lk0)
  go_enter Try.func4, Try.ntmps4
  go_upto_region 3 with fail
  rw [← hW0]
  clear hW0
  go_wp2
  go_loopw [7, 6] (fun y z wr => ∃ (i : Nat) (X : List ByteArray), y = .int .i64 i ∧ z = .int .i64 i ∧ i ≤ len0 ∧ i ≤ 30 ∧ Hid (Lt w wr 1 (fun _ => .slice (some ⟨w.heap.size + 2, 0, none⟩) 0 0) (fun _ => []) { lk0 with q := X } lk0 X ∧ X.length = i)) (fun y _ _ => 30 - (intOf y).toNat)
  case atStart => exact ⟨0, [], rfl, rfl, Nat.zero_le _, Nat.zero_le _, (⟨⟨H0.out, inv0, (fun s hs => by cases hs), (fun s hs => by cases hs), Nat.zero_le _⟩, rfl⟩ : Lt w W0 1 _ _ { lk0 with q := [] } lk0 [] ∧ ([] : List ByteArray).length = 0)⟩
  case round =>
    obtain ⟨i, X, rfl, rfl, hil, hi30, H⟩ := hrel
    clear H0
    by_cases hlt : i < len0 ∧ i < 30
    · obtain ⟨hl1, hl2⟩ := hlt
      have hi0 : (0 : Int) ≤ (i : Int) := Int.natCast_nonneg _
      have hi1 : (i : Int) < (len0 : Int) := by omega
      have hi2 : (i : Int) < 30 := by omega
      obtain ⟨b, o, ha, hb, hok, c0⟩ := str_at HX.out H.out.1.lr.bel hl1
      subst ha
      generalize t0.getD i ByteArray.empty = s at hok c0
      have hcut := cut_any s 50 wr (by unfold okS at hok; unfold maxLen; exact hok)
      have hcs := cut_size s 50
      generalize cut s 50 = cs at hcs hcut
      have HC : Hid _ := hcut
      clear hcut
      go_wp2_with fail
      refine Calls.mono HC.out ?_
      rintro e w2 ⟨rfl, hw2⟩
      subst w2
      clear HC
      go_wp2_with fail
      refine (H.out.1.lr.push_a cs (by omega) (by show X.length < 64; rw [H.out.2]; omega)).mono ?_
      rintro e w3 ⟨rfl, h3⟩
      have H3 : Hid (Lt w w3 1 (fun _ => .slice (some ⟨w.heap.size + 2, 0, none⟩) 0 0) (fun _ => []) { lk0 with q := X ++ [cs] } lk0 (X ++ [cs]) ∧ (X ++ [cs]).length = i + 1) := by
        refine ⟨⟨h3, H.out.1.inv.push cs, (fun s hs => by cases hs), fun t ht => ?_, ?_⟩, ?_⟩
        · rcases List.mem_append.1 ht with q | q
          · exact H.out.1.txt t q
          · rw [List.mem_singleton.1 q]; exact hcs
        · rw [List.length_append, H.out.2]; simp; omega
        · rw [List.length_append, H.out.2]; rfl
      clear h3 H c0 hb hok
      go_wp2
      go_roundw
      case rel => exact ⟨i + 1, _, by go_num, by go_num, by omega, by omega, H3⟩
      case measure => simp [intOf]; omega
    · have hor : (True ∧ ¬ (i : Int) < (len0 : Int)) ∨ ((i : Int) < (len0 : Int) ∧ ¬ (i : Int) < 30) := by
        by_cases q : (i : Int) < (len0 : Int)
        · exact .inr ⟨q, by omega⟩
        · exact .inl ⟨trivial, q⟩
      clear hlt
      go_upto_region 5 with fail
      go_cut [27] (fun v wx => v = .bool false ∧ wr = wx)
      case first =>
        rcases hor with ⟨hor', hor⟩ | ⟨hor', hor⟩
        all_goals
          go_wp2_with fail
          go_meet
          exact ⟨by simp, rfl⟩
      case rest =>
        obtain ⟨rfl, hwx⟩ := hcut
        subst hwx
        clear hor HX hil
        obtain ⟨n, hn⟩ : ∃ n, n = X.length := ⟨_, rfl⟩
        obtain rfl : i = n := by rw [hn, H.out.2]
        have HN : Hid (i = X.length) := hn
        have hlk : ∃ x y, Lt w wr 1 (fun _ => .slice (some ⟨w.heap.size + 2, 0, none⟩) 0 0) (fun _ => []) x y X ∧ x.acked = 0 ∧ y.came = 0 := ⟨_, _, H.out.1, rfl, rfl⟩
        have HLK : Hid _ := hlk
        clear hn hlk H
        go_wp2
        go_loopw [8, 5] (fun u v wr => ∃ (r k : Nat) (V : Nat → Value) (L : Nat → List ByteArray) (x y : Lk), u = .int .i64 r ∧ v = V 0 ∧ r ≤ 12 ∧ k ≤ i ∧ (k = i ∨ 8 * r ≤ k) ∧ Hid (Lt w wr 1 V L x y X ∧ x.acked = k ∧ y.came = k ∧ (L 0).length ≤ 8 * r)) (fun u _ _ => 12 - (intOf u).toNat)
        case atStart =>
          obtain ⟨x, y, h1, h2, h3⟩ := HLK.out
          exact ⟨0, 0, (fun _ => .slice (some ⟨w.heap.size + 2, 0, none⟩) 0 0), (fun _ => []), x, y, rfl, rfl, Nat.zero_le _, Nat.zero_le _, .inr (Nat.le_refl _), (⟨h1, h2, h3, Nat.le_refl _⟩ : Lt w _ 1 (fun _ => .slice (some ⟨w.heap.size + 2, 0, none⟩) 0 0) (fun _ => []) x y X ∧ x.acked = 0 ∧ y.came = 0 ∧ 0 ≤ 0)⟩
        case round =>
          obtain ⟨r, k, V, L, x, y, rfl, rfl, hr, hk, hkr, H⟩ := hrel
          clear HLK
          by_cases hlt : r < 12
          · have hr0 : (0 : Int) ≤ (r : Int) := Int.natCast_nonneg _
            have hr1 : (r : Int) < 12 := by omega
            go_wp2_with fail
            refine (H.out.1.lr.packs_a 1 (Nat.le_refl _)).mono ?_
            rintro e w4 ⟨pa, pc, P, rfl, hP, h4⟩
            have hP8 : P.length ≤ 8 := by rw [bys_len hP]; exact lout_len
            obtain ⟨nP, hnP⟩ : ∃ nP, nP = P.length := ⟨_, rfl⟩
            rw [← hnP] at h4 hP8 ⊢
            have HNP : Hid (nP = P.length) := hnP
            have H4 : Hid (bys P = x.out ∧ x.acked = k ∧ Lt w w4 2 (updR V 1 (.slice pa nP pc)) (updR L 1 P) { x with owes := false } y X ∧ L3 x y k 0 ∧ (updR L 1 P 0).length ≤ 8 * r) :=
              ⟨hP, H.out.2.1, ⟨h4.less (by omega), H.out.1.inv.owes false, by rw [updR_other _ _ (by omega)]; exact H.out.1.old, H.out.1.txt, H.out.1.len⟩, ⟨by rw [H.out.2.2.1]; split <;> simp, fun _ h => absurd h (Nat.lt_irrefl _)⟩, by rw [updR_other _ _ (by omega)]; exact H.out.2.2.2⟩
            have hV : V 0 = updR V 1 (.slice pa nP pc) 0 := (updR_other _ _ (by omega)).symm
            have hV1 : updR V 1 (.slice pa nP pc) 1 = .slice pa nP pc := updR_same _ _ _
            have hL1 : updR L 1 P 1 = P := updR_same _ _ _
            rw [hV]
            generalize updR V 1 (.slice pa nP pc) = V2 at H4 hV1
            generalize updR L 1 P = L2 at H4 hL1
            have HV : Hid (V2 1 = .slice pa nP pc ∧ L2 1 = P) := ⟨hV1, hL1⟩
            clear hP h4 H hV hV1 hL1 hnP
            go_wp2
            go_loopw [46, 5] (fun u v wr => ∃ (j : Nat) (V : Nat → Value) (L : Nat → List ByteArray) (y : Lk), u = .int .i64 j ∧ v = V 0 ∧ j ≤ nP ∧ Hid (V 1 = .slice pa nP pc ∧ L 1 = P ∧ Lt w wr 2 V L { x with owes := false } y X ∧ L3 x y k j ∧ (L 0).length ≤ 8 * r + j)) (fun u _ _ => nP - (intOf u).toNat)
            case atStart => exact ⟨0, V2, L2, y, rfl, rfl, Nat.zero_le _, (⟨HV.out.1, HV.out.2, H4.out.2.2.1, H4.out.2.2.2.1, H4.out.2.2.2.2⟩ : _ ∧ _ ∧ Lt _ _ _ _ _ _ _ _ ∧ _ ∧ _)⟩
            case round =>
              obtain ⟨j, V, L, y, rfl, rfl, hj, H⟩ := hrel
              by_cases hltj : j < nP
              · have hj0 : (0 : Int) ≤ (j : Int) := Int.natCast_nonneg _
                have hj1 : (j : Int) < (nP : Int) := by omega
                obtain ⟨g, hpa, hg, c0⟩ := H.out.2.2.1.lr.get (i := 1) (j := j) (by omega) H.out.1 (by rw [H.out.2.1, ← HNP.out]; exact hltj)
                rw [H.out.2.1] at c0
                subst hpa
                obtain ⟨n0, s0, e0, htru, hn1, hn2⟩ := out_old (x := x) (y := y) (H.out.2.2.1.inv.owes x.owes) H4.out.1 (j := j) (by rw [← HNP.out]; exact hltj)
                obtain ⟨pj, hpj⟩ : ∃ q, q = tx P j := ⟨_, rfl⟩
                rw [← hpj] at c0 e0
                have HE : Hid (pj.data.toList = pkB n0 0 s0 ∧ Tru X 0 n0 0 s0 ∧ L3 x (y.got n0 0) k (j + 1)) := ⟨e0, htru, H.out.2.2.2.1.step H4.out.2.1 hn1 hn2⟩
                clear hpj e0 htru hn1 hn2
                by_cases hpar : (j : Int) % 2 = 0
                · have HO : Hid ((wr.alloc (.cells #[.string pj] 9)).ownsRow (w.heap.size + 2) 9 1 (V 0) (L 0).length (txs (L 0))) := (H.out.2.2.1.lr.below ((Below.refl _ _).alloc (Nat.le_refl _) _)).own 0 (by omega)
                  have HS : Hid (Src Try.prog 1 22 (.slice (some ⟨wr.heap.size, 0, none⟩) 1 1) 1 [.string pj] (wr.alloc (.cells #[.string pj] 9))) := Src.ofSlice _ Try.underlying22 _ _ _ _ rfl (World.news_of_block (cs := #[.string pj]) (t := 9) (fr := (0, 0)) (heap_alloc_new wr _)) (by simp [Value.oneCell'])
                  have hL0 := H.out.2.2.2.2
                  have hsz := H.out.2.2.1.lr.size
                  go_wp2_with (at_builtin; refine wpList_own_append _ rfl _ _ 22 22 rfl (w.heap.size + 2) 9 i0 _ 16 Try.underlying22 hif hz0 hz1 hz2 rfl _ _ _ rfl HO.out _ 1 [.string pj] rfl HS.out ?c3 ?c4 ?c5 ?_)
                  case c3 => unfold maxLen; omega
                  case c4 => omega
                  case c5 => simp; omega
                  intro v' w5 ha5
                  have H5 : Hid (updR V 0 v' 1 = .slice (some ⟨g, 0, none⟩) nP pc ∧ updR L 0 (L 0 ++ [pj]) 1 = P ∧ Lt w w5 2 (updR V 0 v') (updR L 0 (L 0 ++ [pj])) { x with owes := false } y X ∧ (updR L 0 (L 0 ++ [pj]) 0).length ≤ 8 * r + (j + 1)) := by
                    refine ⟨by rw [updR_other _ _ (by omega)]; exact H.out.1, by rw [updR_other _ _ (by omega)]; exact H.out.2.1, ⟨(H.out.2.2.1.lr.below ((Below.refl _ _).alloc (Nat.le_refl _) _)).app (i := 0) (s := pj) (by omega) (by simp) (by simp [txs]) ha5, H.out.2.2.1.inv, ?_, H.out.2.2.1.txt, H.out.2.2.1.len⟩, ?_⟩
                    · rw [updR_same]
                      intro s hs
                      rcases List.mem_append.1 hs with q | q
                      · exact H.out.2.2.1.old s q
                      · rw [List.mem_singleton.1 q]; exact ⟨n0, 0, s0, HE.out.1, HE.out.2.1⟩
                    · rw [updR_same, List.length_append]; simp; omega
                  have hv' : v' = updR V 0 v' 0 := (updR_same _ _ _).symm
                  rw [hv']
                  generalize updR V 0 v' = V5 at H5
                  generalize updR L 0 (L 0 ++ [pj]) = L5 at H5
                  clear ha5 hv' HO HS hL0 hsz H c0 hg
                  go_wp2_with fail
                  refine (H5.out.2.2.1.lr.take_b HE.out.1 (H5.out.2.2.1.ok HE.out.2.1) (by have := H5.out.2.2.1.came0; have := H5.out.2.2.1.len; omega)).mono ?_
                  rintro e w6 ⟨rfl, h6⟩
                  have H6 : Hid (V5 1 = .slice (some ⟨g, 0, none⟩) nP pc ∧ L5 1 = P ∧ Lt w w6 2 V5 L5 { x with owes := false } (y.got n0 0) X ∧ L3 x (y.got n0 0) k (j + 1) ∧ (L5 0).length ≤ 8 * r + (j + 1)) :=
                    ⟨H5.out.1, H5.out.2.1, ⟨h6, H5.out.2.2.1.inv.got (by have := HE.out.2.1; rw [H5.out.2.2.1.came0.1]; exact this), H5.out.2.2.1.old, H5.out.2.2.1.txt, H5.out.2.2.1.len⟩, HE.out.2.2, H5.out.2.2.2⟩
                  clear h6 H5 HE
                  go_wp2
                  go_roundw
                  case rel => exact ⟨j + 1, V5, L5, _, by go_num, rfl, by omega, H6⟩
                  case measure => simp [intOf]; omega
                · have hpb : ((j : Int) % 2 == 0) = false := by simpa using hpar
                  go_wp2_with fail
                  refine (H.out.2.2.1.lr.take_b HE.out.1 (H.out.2.2.1.ok HE.out.2.1) (by have := H.out.2.2.1.came0; have := H.out.2.2.1.len; omega)).mono ?_
                  rintro e w6 ⟨rfl, h6⟩
                  have H6 : Hid (V 1 = .slice (some ⟨g, 0, none⟩) nP pc ∧ L 1 = P ∧ Lt w w6 2 V L { x with owes := false } (y.got n0 0) X ∧ L3 x (y.got n0 0) k (j + 1) ∧ (L 0).length ≤ 8 * r + (j + 1)) :=
                    ⟨H.out.1, H.out.2.1, ⟨h6, H.out.2.2.1.inv.got (by have := HE.out.2.1; rw [H.out.2.2.1.came0.1]; exact this), H.out.2.2.1.old, H.out.2.2.1.txt, H.out.2.2.1.len⟩, HE.out.2.2, by have := H.out.2.2.2.2; omega⟩
                  clear h6 H HE
                  go_wp2
                  go_roundw
                  case rel => exact ⟨j + 1, V, L, _, by go_num, rfl, by omega, H6⟩
                  case measure => simp [intOf]; omega
              · have hj1 : ¬ (j : Int) < (nP : Int) := by omega
                obtain rfl : j = nP := by omega
                obtain ⟨k2, hk2⟩ : ∃ k2 : Nat, k2 = if x.q = [] then k else k + j := ⟨_, rfl⟩
                have hfacts : y.came = k2 ∧ k2 ≤ i ∧ k ≤ k2 ∧ (k = k2 ∨ y.owes = true) ∧ (k2 = i ∨ k + 8 ≤ k2) ∧ (k2 ≠ i → 8 * (r + 1) ≤ k2) := by
                  have hc := H.out.2.2.2.1.cm
                  have hx := H.out.2.2.1.inv.xlen
                  have ha := H4.out.2.1
                  have hl := bys_len H4.out.1
                  have hnx := HNP.out
                  have hni := HN.out
                  have hx' : (x.q.length : Int) = X.length - x.acked := hx
                  by_cases hq : x.q = []
                  · rw [if_pos hq] at hc hk2
                    rw [hq] at hx'
                    simp at hx'
                    refine ⟨by rw [hc, hk2], by omega, by omega, .inl hk2.symm, .inl (by omega), fun h => by omega⟩
                  · rw [if_neg hq] at hc hk2
                    have hpos := List.length_pos_iff.2 hq
                    have hl2 := lout_q hq
                    refine ⟨by rw [hc, hk2]; simp, by omega, by omega, .inr (H.out.2.2.2.1.ow hq (by omega)), by omega, fun h => by omega⟩
                have HF : Hid _ := hfacts
                have H7 : Hid (Lt w wr 1 V L { x with owes := false } y X ∧ (L 0).length ≤ 8 * (r + 1)) := ⟨⟨H.out.2.2.1.lr.less (by omega), H.out.2.2.1.inv, H.out.2.2.1.old, H.out.2.2.1.txt, H.out.2.2.1.len⟩, by have := H.out.2.2.2.2; omega⟩
                have HA : Hid (x.acked = k) := H4.out.2.1
                clear H H4 hk2 hfacts HNP HV
                go_wp2_with fail
                refine (H7.out.1.lr.packs_b 1 (Nat.le_refl _)).mono ?_
                rintro e w8 ⟨qa, qc, Q, rfl, hQ, h8⟩
                have hQ8 : Q.length ≤ 8 := by rw [bys_len hQ]; exact lout_len
                obtain ⟨nQ, hnQ⟩ : ∃ nQ, nQ = Q.length := ⟨_, rfl⟩
                rw [← hnQ] at h8 hQ8 ⊢
                have HNQ : Hid (nQ = Q.length) := hnQ
                have H8 : Hid (bys Q = y.out ∧ updR V 1 (.slice qa nQ qc) 1 = .slice qa nQ qc ∧ updR L 1 Q 1 = Q ∧ Lt w w8 2 (updR V 1 (.slice qa nQ qc)) (updR L 1 Q) { x with owes := false } { y with owes := false } X ∧ (updR L 1 Q 0).length ≤ 8 * (r + 1) ∧ updR V 1 (.slice qa nQ qc) 0 = V 0) :=
                  ⟨hQ, updR_same _ _ _, updR_same _ _ _, ⟨h8.less (by omega), (H7.out.1.inv.swap.owes false).swap, by rw [updR_other _ _ (by omega)]; exact H7.out.1.old, H7.out.1.txt, H7.out.1.len⟩, by rw [updR_other _ _ (by omega)]; exact H7.out.2, updR_other _ _ (by omega)⟩
                generalize updR V 1 (.slice qa nQ qc) = V8 at H8
                generalize updR L 1 Q = L8 at H8
                have HI : Hid (Inv y { x with owes := false } [] X) := H7.out.1.inv.swap
                clear hQ h8 hnQ H7
                go_wp2
                go_loopw [63] (fun u wr => ∃ (q : Nat) (x' : Lk), u = .int .i64 q ∧ q ≤ nQ ∧ Hid (Lt w wr 2 V8 L8 x' { y with owes := false } X ∧ x'.acked = (if q = 0 then (k : Int) else (k2 : Int)))) (fun u _ => nQ - (intOf u).toNat)
                case atStart => exact ⟨0, _, rfl, Nat.zero_le _, (⟨H8.out.2.2.2.1, by rw [if_pos rfl]; exact HA.out⟩ : Lt _ _ _ _ _ _ _ _ ∧ _)⟩
                case round =>
                  obtain ⟨q, x', rfl, hq, H⟩ := hrel
                  by_cases hltq : q < nQ
                  · have hq0 : (0 : Int) ≤ (q : Int) := Int.natCast_nonneg _
                    have hq1 : (q : Int) < (nQ : Int) := by omega
                    obtain ⟨g8, hqa, hg8, c8⟩ := H.out.1.lr.get (i := 1) (j := q) (by omega) H8.out.2.1 (by rw [H8.out.2.2.1, ← HNQ.out]; exact hltq)
                    rw [H8.out.2.2.1] at c8
                    subst hqa
                    obtain ⟨n1, s1, hpk, htru, _, _⟩ := out_true HI.out q (by rw [← bys_len H8.out.1, ← HNQ.out]; exact hltq)
                    have e1 := bys_get H8.out.1 q (by rw [← HNQ.out]; exact hltq)
                    rw [hpk] at e1
                    obtain ⟨pj, hpj⟩ : ∃ z, z = tx Q q := ⟨_, rfl⟩
                    rw [← hpj] at c8 e1
                    have HE : Hid (pj.data.toList = pkB n1 y.came s1 ∧ Tru [] ({ y with owes := false } : Lk).came n1 y.came s1) := ⟨e1, htru⟩
                    clear hpj e1 htru hpk
                    go_wp2_with fail
                    refine (H.out.1.lr.take_a HE.out.1 (tru_ok HE.out.2 (by simp) (by show y.came ≤ _; rw [HF.out.1]; have := HF.out.2.1; omega) (fun t ht => by cases ht)) (by have := H.out.1.came0; omega)).mono ?_
                    rintro e w9 ⟨rfl, h9⟩
                    have H9 : Hid (Lt w w9 2 V8 L8 (x'.got n1 y.came) { y with owes := false } X ∧ (x'.got n1 y.came).acked = (if q + 1 = 0 then (k : Int) else (k2 : Int))) := by
                      refine ⟨⟨h9, (H.out.1.inv.swap.got HE.out.2).swap, H.out.1.old, H.out.1.txt, H.out.1.len⟩, ?_⟩
                      rw [if_neg (by omega)]
                      have hac := H.out.2
                      have hxl := H.out.1.inv.xlen
                      have hcm := HF.out.1
                      have hkk := HF.out.2.2.1
                      have hki := HF.out.2.1
                      have hni := HN.out
                      by_cases ej : q = 0
                      · rw [if_pos ej] at hac
                        by_cases ek : k = k2
                        · rw [got_acked_same (by rw [hac, hcm]; omega), hac, ek]
                        · rw [got_acked (by rw [hac, hcm]; omega) (by rw [hxl, hcm, hac]; omega), hcm]
                      · rw [if_neg ej] at hac
                        rw [got_acked_same (by rw [hac, hcm]; omega), hac]
                    clear h9 H HE
                    go_wp2
                    go_roundw
                    case rel => exact ⟨q + 1, _, by go_num, by omega, H9⟩
                    case measure => simp [intOf]; omega
                  · have hq1 : ¬ (q : Int) < (nQ : Int) := by omega
                    obtain rfl : q = nQ := by omega
                    have hfin : x'.acked = k2 := by
                      have hac := H.out.2
                      by_cases e0 : q = 0
                      · rw [if_pos e0] at hac
                        rcases HF.out.2.2.2.1 with e | e
                        · rw [hac, e]
                        · have h1 := (lout_owes (l := y) (by have := HI.out.xq; simpa using this)).2 e
                          have h2 := bys_len H8.out.1
                          have h3 := HNQ.out
                          omega
                      · rw [if_neg e0] at hac; exact hac
                    have H10 : Hid (Lt w wr 1 V8 L8 x' { y with owes := false } X ∧ x'.acked = k2 ∧ ({ y with owes := false } : Lk).came = k2 ∧ (L8 0).length ≤ 8 * (r + 1)) := ⟨⟨H.out.1.lr.less (by omega), H.out.1.inv, H.out.1.old, H.out.1.txt, H.out.1.len⟩, hfin, HF.out.1, H8.out.2.2.2.2.1⟩
                    have HV0 : Hid (V 0 = V8 0) := H8.out.2.2.2.2.2.symm
                    clear hfin H H8
                    go_wp2
                    go_roundw
                    case rel => exact ⟨r + 1, k2, V8, L8, _, _, by go_num, HV0.out, by omega, HF.out.2.1, by have := HF.out.2.2.2.2.2; by_cases e : k2 = i; exact .inl e; exact .inr (this e), H10⟩
                    case measure => simp [intOf]; omega
          · have hr1 : ¬ (r : Int) < 12 := by omega
            obtain rfl : k = i := by omega
            obtain ⟨va, vc, hv⟩ := H.out.1.lr.shape (i := 0) (by omega)
            obtain ⟨nO, hnO⟩ : ∃ nO, nO = (L 0).length := ⟨_, rfl⟩
            rw [← hnO] at hv
            have hO : nO ≤ 1000 := by have := H.out.2.2.2; omega
            have k2 : wr.cell? ⟨w.heap.size + 1, 2, none⟩ = some (.int .i64 y.came) := H.out.1.lr.two.b.k2
            rw [H.out.2.2.1] at k2
            obtain ⟨qa, qc, q0, _⟩ := H.out.1.lr.two.a.q
            have hq0 : x.q.length = 0 := by have := H.out.1.inv.xlen; rw [H.out.2.1] at this; have := HN.out; omega
            rw [hq0] at q0
            have kl := H.out.1.lr.two.b.lt
            have kl0 := H.out.1.lr.two.a.lt
            have ee : ((k : Int) != (k : Int)) = false := by simp
            have HO : Hid (nO = (L 0).length ∧ V 0 = .slice va nO vc) := ⟨hnO, hv⟩
            rw [hv]
            have H1 : Hid (Lt w wr 1 V L x y X ∧ y.came = k) := ⟨H.out.1, H.out.2.2.1⟩
            clear H hnO hv hkr
            go_wp2
            clear k2 q0 kl kl0 ee
            go_loopw [82] (fun u wr => ∃ (q : Nat) (y' : Lk), u = .int .i64 q ∧ q ≤ nO ∧ Hid (Lt w wr 1 V L x y' X ∧ y'.came = k)) (fun u _ => nO - (intOf u).toNat)
            case atStart => exact ⟨0, y, rfl, Nat.zero_le _, H1⟩
            case round =>
              obtain ⟨q, y', rfl, hq, H⟩ := hrel
              clear H1
              by_cases hltq : q < nO
              · have hq0 : (0 : Int) ≤ (q : Int) := Int.natCast_nonneg _
                have hq1 : (q : Int) < (nO : Int) := by omega
                obtain ⟨g, hva, hg, c0⟩ := H.out.1.lr.get (i := 0) (j := q) (by omega) HO.out.2 (by rw [← HO.out.1]; exact hltq)
                subst hva
                have hmem : tx (L 0) q ∈ L 0 := by unfold tx; exact getD_mem' (by rw [← HO.out.1]; exact hltq)
                obtain ⟨n0, c, s0, e0, htru⟩ := H.out.1.old _ hmem
                have hans := ans_no (y := y') (n0 := n0) (s0 := s0) (by
                  rcases htru.n with h1 | h1
                  · exact .inl h1.1
                  · refine .inr ?_
                    have := HN.out; have := H.out.2; omega)
                have hgc : (y'.got n0 c).came = k := by
                  rw [got_came, H.out.2]
                  rw [if_neg]
                  rintro ⟨h1, h2⟩
                  rcases htru.n with h3 | h3
                  · exact h1 h3.1
                  · have := HN.out; omega
                obtain ⟨pj, hpj⟩ : ∃ z, z = tx (L 0) q := ⟨_, rfl⟩
                rw [← hpj] at c0 e0
                have htk := H.out.1.lr.take_b e0 (H.out.1.ok htru) (by rw [H.out.2]; omega)
                rw [hans] at htk
                have HT : Hid (Calls Try.prog 9 #[.pointer (some ⟨w.heap.size + 1, 0, none⟩), .string pj] wr fun e w' => e = .returned (.tuple #[.string ByteArray.empty, .bool false, .nilIface]) ∧ Lrw w w' 1 V L x (y'.got n0 c)) := htk
                have HI : Hid (Inv x (y'.got n0 c) X [] ∧ (y'.got n0 c).came = k) := ⟨H.out.1.inv.got (by rw [H.out.1.came0.1]; exact htru), hgc⟩
                clear hmem e0 htru hans hgc hpj htk
                go_wp2_with fail
                refine HT.out.mono ?_
                rintro e w9 ⟨rfl, h9⟩
                have H9 : Hid (Lt w w9 1 V L x (y'.got n0 c) X ∧ (y'.got n0 c).came = k) := ⟨⟨h9, HI.out.1, H.out.1.old, H.out.1.txt, H.out.1.len⟩, HI.out.2⟩
                have k2 : w9.cell? ⟨w.heap.size + 1, 2, none⟩ = some (.int .i64 (y'.got n0 c).came) := h9.two.b.k2
                rw [HI.out.2] at k2
                have kl := h9.two.b.lt
                have ee : ((k : Int) != (k : Int)) = false := by simp
                clear h9 H HT HI
                go_wp2
                go_roundw
                case rel => exact ⟨q + 1, _, by go_num, by omega, H9⟩
                case measure => simp [intOf]; omega
              · have hq1 : ¬ (q : Int) < (nO : Int) := by omega
                have hbe := H.out.1.lr.bel
                go_wp2_with fail
                refine (lawake_any _).mono ?_
                rintro e w12 ⟨rfl, hb12⟩
                go_wp2
                go_ret
                exact ⟨rfl, hbe.trans (hb12.mono hbe.size)⟩

/-! ### The row's step -/
set_option maxRecDepth 100000 in
theorem lifted (os : Os) (started : os.Started) (H : Type) (enc : TypeId × Value → H) :
    ReturnsInHanded {} Try.checked os 4 .any (Rows.linkLateSpec.pre6 enc Try.prog Try.f4 Rows.linkLateRow.domain false) (Rows.linkLateSpec.post enc Try.prog Try.f4 false true false false) := by
  refine returnsInHanded_of_change (C := Try.checked) own started (by kernel_rfl) Try.func4
    (ChangeSpec.witness6 (enc := enc) (C := Try.checked) false ⟨#[], #[.slice none 0 0], []⟩ 8 (by kernel_rfl) (by kernel_rfl) (by kernel_rfl) (by kernel_rfl)) ?_
  intro W base args ds gs before hval0 hW hcnd _
  have hval : ∀ (j : Nat) t v, Try.f4.params[j]? = some t → args[j]? = some v → Value.okWide Try.prog W .any base t v := hval0
  have hW' := hW
  obtain ⟨p, q, hA0, hV, rfl, hfz, hnd⟩ := hW
  have hA : DataW.TrodAll enc Try.prog W 0 (fun _ => true) true Try.f4.params.toList args.toList ds p := hA0
  rw [Try.params4] at hA hval
  obtain ⟨v0, vs0, d0, ds0, p0, q0, hargs, rfl, rfl, h0, r0⟩ := trodAll_cons hA
  obtain ⟨rfl, rfl, rfl⟩ := trodAll_nil r0
  obtain rfl : args = #[v0] := by cases args; simp_all
  obtain ⟨rfl, rfl⟩ := trodVars_none hV
  obtain ⟨a0, len0, cap0, rfl⟩ := okWide_slice Try.underlying22 (hval 0 22 v0 rfl rfl)
  have k0 := h0
  have lt0 : ∀ x ∈ p0, x.block < W.heap.size := by obtain ⟨m, hm⟩ := k0; exact DataW.trod_lt m _ _ _ hm
  obtain ⟨t0, w0⟩ : ∃ ts, InRow 1 encS okS ByteArray.empty W a0 len0 ts := by
    obtain ⟨fuel, hf⟩ := h0
    exact inrow_of 1 encS okS ByteArray.empty 22 9 Try.underlying22 cellsS1 (by omega) lenS (fun n cs x => str_of n cs x) hf
  clear hA0 hval0
  refine (walk a0 len0 cap0 t0 W w0).mono fun e W' ⟨he, bel⟩ => ?_
  subst he
  exact ⟨_, rfl, _, _, _, [], _, [], hW', trodAll_mk1 (shut_bool Try.underlying4 _), (trodAll_cons_mk (Below.trod laidOut (by kernel_rfl) (of_decide_eq_true (by kernel_rfl)) k0 bel lt0) trodAll_mk0), rfl, bel.frame _, fun h => by cases h⟩

theorem over : Rows.linkLateRow.holds Try.pinned (OpenSpec.ofChange Rows.linkLateSpec) :=
  OpenClaim.holds_of_wide 4 Try.f4 rfl rfl rfl rfl rfl rfl rfl ⟨rfl, rfl, rfl, rfl, rfl⟩ rfl rfl rfl rfl rfl (by kernel_rfl) Try.func4 (by kernel_rfl)
    (of_decide_eq_true (by kernel_rfl)) (by unfold Func.isWrapper; first | (rw [if_pos (by decide +kernel)]; kernel_rfl) | (rw [if_neg (by decide +kernel)]; exact ⟨rfl, rfl⟩))
    (fun os started H enc _ => lifted os started H enc)

end Go.Proofs.Ytgbdnclolgdojaa.linkLate

namespace Go.Proofs.Ytgbdnclolgdojaa
/-- Proved: for every list of texts, LinkLate answers true (packets that come late, behind all others, change nothing any more; of at most 30 texts). -/
theorem linkLate_holds : Rows.LinkLateSaid := linkLate.over
#print axioms linkLate_holds
end Go.Proofs.Ytgbdnclolgdojaa
