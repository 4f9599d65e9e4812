/- For every list of places, every list of members and every number of rounds: members that come, and go again one by one as far as they may, leave the base members as they were.
  The frame is the guide's own shell (proof-skeleton.mjs) at this function; the walk and all ahead of it are mine. -/
import Derived.Test.YtgpamiggdeopbabRows
import Derived.Test.YtgpamiggdeopbabJoinChBack2
import Derived.Deep.CutBlock
import Derived.Deep.DeepCutAuto
import Derived.Deep.LoopGhost
import Derived.WalkKit
import Derived.WalkLawsBesides
import Derived.ProofKit
import Derived.OpenShut
import Derived.ShutString
import Derived.ChangeOld
import Derived.Below
namespace Go.Proofs.Ytgpamiggdeopbab.wigwagBack
open Go.ChangeShapes Go.WideShapes Go.ChangeAt Go.RowKit
open Go.ChangeMaps (open_string shut_string)
set_option linter.unusedVariables false

theorem own : ownKnob Try.prog.godebug = none := by kernel_rfl
theorem laidOut : laidOutB Try.prog = true := by kernel_rfl


theorem peB_self (p : Pe) : peB p p = true := by
  have : intsB p.succ p.succ = true := ints_all rfl (fun _ _ => rfl)
  simp [peB, this]
theorem ringA_kn {R : Rg} (h : R.kn 0 = ringA.kn 0 ∧ R.kn 1 = ringA.kn 1 ∧ R.kn 2 = ringA.kn 2 ∧ R.kn 3 = ringA.kn 3) (n : Nat) (hn : n < 4) : ∃ p, R.kn n = some p ∧ ringA.kn n = some p ∧ p.succ.length ≤ 1000 := by
  match n, hn with
  | 0, _ => exact ⟨⟨10, 3, [1, 2, 3]⟩, h.1.trans rfl, rfl, by simp⟩
  | 1, _ => exact ⟨⟨20, 0, [2, 3, 0]⟩, h.2.1.trans rfl, rfl, by simp⟩
  | 2, _ => exact ⟨⟨30, 1, [3, 0, 1]⟩, h.2.2.1.trans rfl, rfl, by simp⟩
  | 3, _ => exact ⟨⟨40, 2, [0, 1, 2]⟩, h.2.2.2.trans rfl, rfl, by simp⟩
theorem mbrA : Mbr ringA [] := by
  refine ⟨List.nodup_nil, fun x hx => ?_, fun x hx => ?_, fun _ _ _ => rfl⟩
  · cases hx
  · exact .inl ((ringA_lives x).1 hx).2
theorem pe_in {w : World} {b o : Nat} {l : List Int} {n i : Nat} (h : IdIn w (some ⟨b, o, none⟩) n l) (hi : i < n) : u64 (l.getD i 0) := by
  obtain ⟨b', o', _, _, hu, _⟩ := h.one (v := Value.int .u64) (fun _ => rfl) (i := i) hi
  exact hu
/-! ### STEP 1: the walk -/
set_option maxRecDepth 100000 in
set_option maxHeartbeats 2000000 in
theorem walk (a0 : Option Addr) (len0 cap0 : Nat) (t0 : List Int) (a1 : Option Addr) (len1 cap1 : Nat) (t1 : List Int) (a2 : Int) (w : World) (w0 : InRow 1 encU Go.Proofs.Ytgpamiggdeopbab.u64 0 w a0 len0 t0) (w1 : InRow 1 encI i64 0 w a1 len1 t1) (w2 : (Lit.int .i64 a2).wf = true) :
    Calls Try.prog 4 #[.slice a0 len0 cap0, .slice a1 len1 cap1, .int .i64 a2] w fun e w' => e = .returned (.bool true) ∧ Below w.heap.size w w' := by
  have HI : Hid (IdIn w a0 len0 t0) := w0
  have HV : Hid (InIn w a1 len1 t1) := w1
  have hm0 := w0.2.1
  have hm1 := w1.2.1
  clear w0 w1 w2
  obtain ⟨i0, hi, hz0, hz1, hz2⟩ := info_of Try.infoInt
  by_cases r0 : a2 < 0
  · go_enter Try.func4, Try.ntmps4
    go_wp2
    go_ret
    exact ⟨rfl, Below.refl _ _⟩
  by_cases r5 : 5 < a2
  · go_enter Try.func4, Try.ntmps4
    go_wp2
    go_ret
    exact ⟨rfl, Below.refl _ _⟩
  obtain ⟨rd, hrd⟩ : ∃ rd : Nat, a2 = (rd : Int) := ⟨a2.toNat, by omega⟩
  subst hrd
  have hrd5 : rd ≤ 5 := by omega
  obtain ⟨W1, hW1⟩ : ∃ W1, W1 = w.alloc (.cells #[.int .u64 10, .int .u64 20, .int .u64 30, .int .u64 40] 23) := ⟨_, rfl⟩
  have HX1 : Hid (IdIn W1 (some ⟨w.heap.size, 0, none⟩) 4 ids4 ∧ Below w.heap.size w W1) := by
    rw [hW1]
    exact ⟨in_list (v := Value.int .u64) (T := 23) (arr := #[.int .u64 10, .int .u64 20, .int .u64 30, .int .u64 40]) (fun _ => rfl) ids4 rfl (heap_alloc_new w _) (by simp [ids4, u64]) (by decide), below_one _ _⟩
  go_enter Try.func4, Try.ntmps4
  go_wp2_with fail
  rw [← hW1]
  clear hW1
  refine (new_base _ _ _ HX1.out.1).mono ?_
  rintro e w1 ⟨r, gp, gk, rfl, hr, l1, l2, l3, b1⟩
  have H1 : Hid (Rn w w1 r gp gk ringA ∧ IdIn w1 (some ⟨w.heap.size, 0, none⟩) 4 ids4) := ⟨⟨hr, ringA_inv, HX1.out.2.trans (b1.mono HX1.out.2.size), Nat.le_trans HX1.out.2.size l2, Nat.le_trans HX1.out.2.size l3⟩, HX1.out.1.below (Nat.le_refl _) b1⟩
  clear hr l1 l2 l3 b1
  go_wp2_with fail
  refine (new_base _ _ _ H1.out.2).mono ?_
  rintro e w2 ⟨r2, gp2, gk2, rfl, hr, l1, l2, l3, b1⟩
  have HS : Hid (RingAt w2 r2 gp2 gk2 ringA ∧ RingAt w2 r gp gk ringA ∧ (r2 ≠ gp ∧ r2 ≠ gk) ∧ (gp2 ≠ gp ∧ gp2 ≠ gk) ∧ (gk2 ≠ gp ∧ gk2 ≠ gk)) := by
    have := H1.out.1.ring.lt
    exact ⟨hr, H1.out.1.ring.below b1, ⟨by omega, by omega⟩, ⟨by omega, by omega⟩, ⟨by omega, by omega⟩⟩
  have H2 : Hid (∃ B G R, Bw w w2 (w2.alloc (.cells #[] 3)) B r gp gk (.slice (some ⟨w2.heap.size, 0, none⟩) 0 0) G R ∧ Mbr R G ∧ G.length ≤ 0) :=
    ⟨_, [], _, Bw.start (H1.out.1.below b1), mbrA.withCl _, Nat.le_refl _⟩
  clear hr l1 l2 l3 b1 H1
  go_wp2
  go_loopg [13, 12] len0 (fun kx s gv wr => ∃ k : Nat, s = .int .i64 k ∧ k ≤ len0 ∧ k ≤ 12 ∧ kx = len0 - k ∧ Hid (∃ B G R, Bw w w2 wr B r gp gk gv G R ∧ Mbr R G ∧ G.length ≤ k))
  case atStart => exact ⟨0, rfl, Nat.zero_le _, by omega, rfl, H2⟩
  case round =>
    obtain ⟨k, rfl, hk, hk12, rfl, HB⟩ := hrel
    clear H2
    obtain ⟨B, G, R, hS, hM, hGk⟩ := HB.out
    have H3 : Hid (Bw w w2 wr B r gp gk u12 G R ∧ Mbr R G) := ⟨hS, hM⟩
    clear hS hM HB
    by_cases hlt : k < len0 ∧ k < 12
    · obtain ⟨hlt, h12⟩ := hlt
      obtain ⟨b, o, rfl, hbb, hidu, hcid⟩ := (HI.out.below (Nat.le_refl _) H3.out.1.rw.rn.bel).one (v := Value.int .u64) (fun _ => rfl) (i := k) hlt
      have HU : Hid (Plc (t0.getD k 0)) := hidu
      generalize t0.getD k 0 = id at hcid HU
      clear hidu
      have hx : ∃ x : Int, i64 x ∧ ((k < len1 ∧ ∃ b1 o1, a1 = some ⟨b1, o1, none⟩ ∧ b1 < wr.heap.size ∧ wr.cell? ⟨b1, o1 + k, none⟩ = some (.int .i64 x)) ∨ (¬ k < len1 ∧ x = 0)) := by
        by_cases q : k < len1
        · obtain ⟨b1, o1, e1, h1, hx, hc⟩ := (HV.out.below (Nat.le_refl _) H3.out.1.rw.rn.bel).one (v := Value.int .i64) (fun _ => rfl) (i := k) q
          exact ⟨_, hx, .inl ⟨q, b1, o1, e1, h1, hc⟩⟩
        · exact ⟨0, i64_zero, .inr ⟨q, rfl⟩⟩
      obtain ⟨x, hx64, hxx⟩ := hx
      have HX : Hid (i64 x) := hx64
      clear hx64
      have hmj := H3.out.2.join (n := 4 + (k : Int)) (id := id) (via := x) H3.out.1.rw.rn.inv HU.out
      have hcase : (errV (R.joinC (4 + (k : Int)) id x) = .nilIface ∧ Mbr (R.join (4 + (k : Int)) id x) (G ++ [4 + (k : Int)])) ∨ (errV (R.joinC (4 + (k : Int)) id x) = .iface 34 (.int .i64 (R.joinC (4 + (k : Int)) id x)) ∧ Mbr (R.join (4 + (k : Int)) id x) G) := by
        by_cases qc : R.joinC (4 + (k : Int)) id x = 0
        · rw [if_pos qc] at hmj; exact .inl ⟨errV_nil qc, hmj⟩
        · rw [if_neg qc] at hmj; exact .inr ⟨errV_code qc, hmj⟩
      clear hmj
      rcases hcase with ⟨hEV, hMJ⟩ | ⟨hEV, hMJ⟩
      · have EV : Hid _ := hEV
        have HMJ : Hid _ := hMJ
        clear hEV hMJ
        rcases hxx with ⟨q1, b1, o1, rfl, hb1, hc1⟩ | ⟨q1, rfl⟩
        all_goals
          go_wp2_with fail
          refine (join_r r gp gk R (4 + (k : Int)) id _ _ H3.out.1.rw.rn.ring HU.out HX.out).mono ?_
          rintro e w4 ⟨rfl, h4, k4⟩
          rw [EV.out]
          have H4 : Hid (Bw w w2 w4 B r gp gk u12 G (R.join (4 + (k : Int)) id _)) := H3.out.1.step h4 (H3.out.1.rw.rn.inv.join _ id _ HU.out) k4 (cl_join R _ id _)
          clear h4 k4
          have H6 : Hid (Bw w w2 (w4.alloc (.cells #[.int .i64 (4 + (k : Int))] 3)) B r gp gk u12 G (R.join (4 + (k : Int)) id _)) := H4.out.below (below_one _ _)
          have HSr : Hid (Src Try.prog 1 38 (.slice (some ⟨w4.heap.size, 0, none⟩) 1 1) 1 [cellI (4 + (k : Int))] (w4.alloc (.cells #[.int .i64 (4 + (k : Int))] 3))) := Src.ofSlice _ Try.underlying38 _ _ _ _ rfl (World.news_of_block (cs := #[.int .i64 (4 + (k : Int))]) (t := 3) (fr := (0, 0)) (heap_alloc_new w4 _)) (by simp [cellI, Value.oneCell'])
          have hw2 := H6.out.rw.lB
          go_wp2_with (at_builtin; refine wpList_own_append _ rfl _ _ 38 38 rfl B 3 i0 _ 8 Try.underlying38 hi hz0 hz1 hz2 rfl _ _ _ rfl H6.out.rw.row _ 1 [cellI (4 + (k : Int))] rfl HSr.out ?c3 ?c4 ?c5 ?_)
          case c3 => unfold maxLen; omega
          case c4 => omega
          case c5 => exact hw2
          intro v' w6 ha
          have HA6 : Hid (∃ B G R, Bw w w2 w6 B r gp gk v' G R ∧ Mbr R G ∧ G.length ≤ k + 1) := ⟨_, _, _, H6.out.append ha, HMJ.out.withCl _, by simp; omega⟩
          clear ha hw2
          go_wp2
          go_loopg [15] rd (fun kx s wr => ∃ j : Nat, s = .int .i64 j ∧ j ≤ rd ∧ kx = rd - j ∧ Hid (∃ B G R, Bw w w2 wr B r gp gk v' G R ∧ Mbr R G ∧ G.length ≤ k + 1))
          case atStart => exact ⟨0, rfl, Nat.zero_le _, rfl, HA6⟩
          case round =>
            obtain ⟨j, rfl, hj, rfl, HB⟩ := hrel
            clear HA6
            obtain ⟨B7, G7, R7, hS7, hM7, hG7⟩ := HB.out
            have H7 : Hid (Bw w w2 wr B7 r gp gk v' G7 R7 ∧ Mbr R7 G7 ∧ G7.length ≤ k + 1) := ⟨hS7, hM7, hG7⟩
            clear hS7 hM7 hG7 HB
            by_cases hjr : j < rd
            · go_wp2_with (go_at_call 10; refine (round_r r gp gk R7 _ H7.out.1.rw.rn.ring).mono ?_; rintro e w8 ⟨rfl, h8, k8⟩)
              go_roundg (rd - (j + 1))
              case measure => omega
              case rel => exact ⟨j + 1, by go_num, by omega, rfl, ⟨B7, G7, R7.round, H7.out.1.step h8 H7.out.1.rw.rn.inv.round k8 (cl_round R7), H7.out.2.1.round H7.out.1.rw.rn.inv, H7.out.2.2⟩⟩
            · go_wp2
              go_roundg (len0 - (k + 1))
              case measure => omega
              case rel => exact ⟨k + 1, by go_num, by omega, by omega, rfl, ⟨_, _, _, H7.out⟩⟩
      · have EV : Hid _ := hEV
        have HMJ : Hid _ := hMJ
        clear hEV hMJ
        rcases hxx with ⟨q1, b1, o1, rfl, hb1, hc1⟩ | ⟨q1, rfl⟩
        all_goals
          go_wp2_with fail
          refine (join_r r gp gk R (4 + (k : Int)) id _ _ H3.out.1.rw.rn.ring HU.out HX.out).mono ?_
          rintro e w4 ⟨rfl, h4, k4⟩
          rw [EV.out]
          have HA6 : Hid (∃ B G R, Bw w w2 w4 B r gp gk u12 G R ∧ Mbr R G ∧ G.length ≤ k + 1) := ⟨_, _, _, H3.out.1.step h4 (H3.out.1.rw.rn.inv.join _ id _ HU.out) k4 (cl_join R _ id _), HMJ.out, by omega⟩
          clear h4 k4
          go_wp2
          go_loopg [15] rd (fun kx s wr => ∃ j : Nat, s = .int .i64 j ∧ j ≤ rd ∧ kx = rd - j ∧ Hid (∃ B G R, Bw w w2 wr B r gp gk u12 G R ∧ Mbr R G ∧ G.length ≤ k + 1))
          case atStart => exact ⟨0, rfl, Nat.zero_le _, rfl, HA6⟩
          case round =>
            obtain ⟨j, rfl, hj, rfl, HB⟩ := hrel
            clear HA6
            obtain ⟨B7, G7, R7, hS7, hM7, hG7⟩ := HB.out
            have H7 : Hid (Bw w w2 wr B7 r gp gk u12 G7 R7 ∧ Mbr R7 G7 ∧ G7.length ≤ k + 1) := ⟨hS7, hM7, hG7⟩
            clear hS7 hM7 hG7 HB
            by_cases hjr : j < rd
            · go_wp2_with (go_at_call 10; refine (round_r r gp gk R7 _ H7.out.1.rw.rn.ring).mono ?_; rintro e w8 ⟨rfl, h8, k8⟩)
              go_roundg (rd - (j + 1))
              case measure => omega
              case rel => exact ⟨j + 1, by go_num, by omega, rfl, ⟨B7, G7, R7.round, H7.out.1.step h8 H7.out.1.rw.rn.inv.round k8 (cl_round R7), H7.out.2.1.round H7.out.1.rw.rn.inv, H7.out.2.2⟩⟩
            · go_wp2
              go_roundg (len0 - (k + 1))
              case measure => omega
              case rel => exact ⟨k + 1, by go_num, by omega, by omega, rfl, ⟨_, _, _, H7.out⟩⟩
    · have hq2 : k < len0 → ¬ k < 12 := fun h1 h2 => hlt ⟨h1, h2⟩
      clear hlt
      obtain ⟨w4, hw4⟩ : ∃ w4, w4 = wr := ⟨_, rfl⟩
      rw [← hw4] at H3 ⊢
      clear hw4
      have H4 : Hid (∃ B G R p, Bw w w2 w4 B r gp gk u12 G R ∧ Mbr R G ∧ Pha R p ∧ G.length ≤ 12 ∧ (G = [] ∨ 0 + (2 * G.length + (2 - p)) ≤ 26)) :=
        ⟨B, G, R, 0, H3.out.1, H3.out.2, ⟨fun h => by omega, fun h => by omega, by omega⟩, by omega, .inr (by omega)⟩
      clear H3 hGk
      by_cases q3 : k < len0
      all_goals
        first
          | (have q5 : ¬ k < 12 := hq2 q3
             clear hq2
             go_wp2)
          | (clear hq2
             go_wp2)
        go_loopg [16, 12] 41 (fun kx s gv wr => ∃ t : Nat, s = .int .i64 t ∧ t ≤ 40 ∧ kx = 41 - t ∧ Hid (∃ B G R p, Bw w w2 wr B r gp gk gv G R ∧ Mbr R G ∧ Pha R p ∧ G.length ≤ 12 ∧ (G = [] ∨ t + (2 * G.length + (2 - p)) ≤ 26)))
        case atStart => exact ⟨0, rfl, Nat.zero_le _, rfl, H4⟩
        case round =>
          obtain ⟨t, rfl, ht, rfl, HB⟩ := hrel
          clear H4
          obtain ⟨B5, G5, R5, p5, hS, hM, hP, hG12, hmu⟩ := HB.out
          have H5 : Hid (Bw w w2 wr B5 r gp gk u12 G5 R5 ∧ Mbr R5 G5 ∧ Pha R5 p5) := ⟨hS, hM, hP⟩
          obtain ⟨ga, gc, hgv⟩ : ∃ ga gc, u12 = .slice ga G5.length gc := by
            rcases hS.rw.row.2 with ⟨h0, h1⟩ | ⟨g, cap, cur, hv, _⟩
            · exact ⟨none, 0, by rw [h0, h1]⟩
            · exact ⟨_, _, hv⟩
          subst hgv
          clear hS hM hP HB
          by_cases hG : 0 < G5.length
          · have hG' : G5 ≠ [] := fun e => by rw [e] at hG; simp at hG
            have hmu' : t + (2 * G5.length + (2 - p5)) ≤ 26 := hmu.resolve_left hG'
            have ht40 : t < 40 := by omega
            have HG : Hid (G5 ≠ [] ∧ t + (2 * G5.length + (2 - p5)) ≤ 26) := ⟨hG', hmu'⟩
            have HL : Hid (∀ x, ga = some x → x.block < wr.heap.size) := fun x hx => by
              obtain ⟨g, e1, _, e2, _⟩ := own_int H5.out.1.rw.row (i := 0) hG
              rw [e1] at hx; cases hx; exact e2
            obtain ⟨B6, hB6⟩ : ∃ B6, B6 = wr.heap.size := ⟨_, rfl⟩
            have H6 : Hid (Bw w w2 (wr.alloc (.cells #[] 3)) B6 r gp gk (.slice (some ⟨wr.heap.size, 0, none⟩) 0 0) [] (R5.withCl (fun b => b = wr.heap.size)) ∧ Trn R5 (R5.withCl (fun b => b = wr.heap.size)) p5 G5 [] 0 ∧ InIn (wr.alloc (.cells #[] 3)) ga G5.length G5) := by
              rw [hB6]
              exact ⟨H5.out.1.left, (Trn.start H5.out.2.1).withCl _, (own_in H5.out.1.rw.row (fun x hx => by have := H5.out.1.rw.rn.inv.rng x (H5.out.2.1.lv x hx).1; unfold i64; omega) (by omega)).below (Nat.le_refl _) (below_one _ _)⟩
            rw [← hB6] at HL
            clear hB6 hG' hmu hmu'
            go_wp2
            go_loopg [110, 17] G5.length (fun kx s lv wq => ∃ (j : Nat) (L : List Int) (R : Rg), s = .int .i64 j ∧ j ≤ G5.length ∧ kx = G5.length - j ∧ Hid (Bw w w2 wq B6 r gp gk lv L R ∧ Trn R5 R p5 G5 L j ∧ InIn wq ga G5.length G5))
            case atStart => exact ⟨0, [], _, rfl, Nat.zero_le _, rfl, H6⟩
            case round =>
              obtain ⟨j, L, R6, rfl, hj, rfl, HB⟩ := hrel
              clear H6
              have hLj : L.length ≤ j := HB.out.2.1.few
              by_cases hjl : j < G5.length
              · obtain ⟨b, o, rfl, hbb, _, hcx⟩ := HB.out.2.2.one (v := Value.int .i64) (fun _ => rfl) (i := j) hjl
                have hn := HB.out.2.1.next HB.out.1.rw.rn.inv H5.out.2.2 hjl
                generalize G5.getD j 0 = x at hcx hn
                have hcase : (errV (R6.failC x) = .nilIface ∧ Trn R5 (R6.fail x) p5 G5 L (j + 1)) ∨ (errV (R6.failC x) = .iface 34 (.int .i64 (R6.failC x)) ∧ Trn R5 (R6.fail x) p5 G5 (L ++ [x]) (j + 1)) := by
                  by_cases qc : R6.failC x = 0
                  · exact .inl ⟨errV_nil qc, hn.1 qc⟩
                  · exact .inr ⟨errV_code qc, hn.2 qc⟩
                clear hn
                rcases hcase with ⟨hEV, hTR⟩ | ⟨hEV, hTR⟩
                · have EV : Hid _ := hEV
                  have HTR : Hid _ := hTR
                  clear hEV hTR
                  go_wp2_with fail
                  refine (fail_r r gp gk R6 x _ HB.out.1.rw.rn.ring).mono ?_
                  rintro e w7 ⟨rfl, h7, k7⟩
                  rw [EV.out]
                  obtain ⟨mp, hmp, _⟩ := HB.out.1.rw.rn.ring.places
                  obtain ⟨mk, hmk, _⟩ := HB.out.1.rw.rn.ring.known
                  have H7 : Hid (Bw w w2 w7 B6 r gp gk u17 L (R6.fail x) ∧ Trn R5 (R6.fail x) p5 G5 L (j + 1) ∧ InIn w7 (some ⟨b, o, none⟩) G5.length G5) := ⟨HB.out.1.step h7 (HB.out.1.rw.rn.inv.fail x) k7 (cl_fail R6 x), HTR.out, InRow.kp HB.out.2.2 k7 hmp hmk⟩
                  clear h7 k7 hmp hmk
                  go_wp2
                  go_roundg (G5.length - (j + 1))
                  case measure => omega
                  case rel => exact ⟨j + 1, L, R6.fail x, by go_num, by omega, rfl, H7⟩
                · have EV : Hid _ := hEV
                  have HTR : Hid _ := hTR
                  clear hEV hTR
                  go_wp2_with fail
                  refine (fail_r r gp gk R6 x _ HB.out.1.rw.rn.ring).mono ?_
                  rintro e w7 ⟨rfl, h7, k7⟩
                  rw [EV.out]
                  obtain ⟨mp, hmp, _⟩ := HB.out.1.rw.rn.ring.places
                  obtain ⟨mk, hmk, _⟩ := HB.out.1.rw.rn.ring.known
                  have H7 : Hid (Bw w w2 (w7.alloc (.cells #[.int .i64 x] 3)) B6 r gp gk u17 L (R6.fail x) ∧ InIn (w7.alloc (.cells #[.int .i64 x] 3)) (some ⟨b, o, none⟩) G5.length G5) := ⟨(HB.out.1.step h7 (HB.out.1.rw.rn.inv.fail x) k7 (cl_fail R6 x)).below (below_one _ _), (InRow.kp HB.out.2.2 k7 hmp hmk).below (Nat.le_refl _) (below_one _ _)⟩
                  clear h7 k7 hmp hmk
                  have HSr : Hid (Src Try.prog 1 38 (.slice (some ⟨w7.heap.size, 0, none⟩) 1 1) 1 [cellI x] (w7.alloc (.cells #[.int .i64 x] 3))) := Src.ofSlice _ Try.underlying38 _ _ _ _ rfl (World.news_of_block (cs := #[.int .i64 x]) (t := 3) (fr := (0, 0)) (heap_alloc_new w7 _)) (by simp [cellI, Value.oneCell'])
                  have hw2 := H7.out.1.rw.lB
                  go_wp2_with (at_builtin; refine wpList_own_append _ rfl _ _ 38 38 rfl B6 3 i0 _ 8 Try.underlying38 hi hz0 hz1 hz2 rfl _ _ _ rfl H7.out.1.rw.row _ 1 [cellI x] rfl HSr.out ?c3 ?c4 ?c5 ?_)
                  case c3 => unfold maxLen; omega
                  case c4 => omega
                  case c5 => exact hw2
                  intro v' w8 ha
                  have HA8 : Hid (Bw w w2 w8 B6 r gp gk v' (L ++ [x]) ((R6.fail x).withCl (fun b => v'.ownBlock = some b)) ∧ Trn R5 ((R6.fail x).withCl (fun b => v'.ownBlock = some b)) p5 G5 (L ++ [x]) (j + 1) ∧ InIn w8 (some ⟨b, o, none⟩) G5.length G5) := ⟨H7.out.1.append ha, HTR.out.withCl _, in_app H7.out.1.rw.row H7.out.2 HL.out ha⟩
                  clear ha hw2
                  go_wp2
                  go_roundg (G5.length - (j + 1))
                  case measure => omega
                  case rel => exact ⟨j + 1, L ++ [x], _, by go_num, by omega, rfl, HA8⟩
              · obtain rfl : j = G5.length := by omega
                have hd := HB.out.2.1.done H5.out.1.rw.rn.inv HB.out.1.rw.rn.inv H5.out.2.2 HG.out.1
                obtain ⟨hd1, p', hd2, hd3⟩ := hd
                have HD : Hid (Mbr R6.round L ∧ Pha R6.round p' ∧ 2 * L.length + (2 - p') < 2 * G5.length + (2 - p5)) := ⟨hd1, hd2, hd3⟩
                clear hd1 hd2 hd3
                go_wp2_with fail
                refine (round_r r gp gk R6 _ HB.out.1.rw.rn.ring).mono ?_
                rintro e w7 ⟨rfl, h7, k7⟩
                have H7 : Hid (∃ B G R p, Bw w w2 w7 B r gp gk u17 G R ∧ Mbr R G ∧ Pha R p ∧ G.length ≤ 12 ∧ (G = [] ∨ t + 1 + (2 * G.length + (2 - p)) ≤ 26)) :=
                  ⟨B6, L, R6.round, p', HB.out.1.step h7 HB.out.1.rw.rn.inv.round k7 (cl_round R6), HD.out.1, HD.out.2.1, by omega, .inr (by have := HD.out.2.2; have := HG.out.2; omega)⟩
                clear h7 k7
                go_wp2
                go_roundg (41 - (t + 1))
                case measure => omega
                case rel => exact ⟨t + 1, by go_num, by omega, rfl, H7⟩
          · have hG0 : G5.length = 0 := by omega
            have hGn : G5 = [] := List.eq_nil_of_length_eq_zero hG0
            have H6 : Hid (Rn w wr r gp gk R5 ∧ Kp w2 wr gp gk ∧ Mbr R5 []) := ⟨H5.out.1.rw.rn, H5.out.1.kp, by have := H5.out.2.1; rwa [hGn] at this⟩
            rw [hG0]
            clear H5 hG hG0 hGn hmu hG12
            obtain ⟨w6, hw6⟩ : ∃ w6, w6 = wr := ⟨_, rfl⟩
            rw [← hw6] at H6 ⊢
            clear hw6
            by_cases h40 : t < 40
            all_goals
              go_wp2
              go_loopg [20] 24 (fun kx s wr => ∃ j : Nat, s = .int .i64 j ∧ j ≤ 24 ∧ kx = 24 - j ∧ Hid (Rn w wr r gp gk (R5.rounds j) ∧ Kp w2 wr gp gk))
              case atStart => exact ⟨0, rfl, Nat.zero_le _, rfl, (⟨H6.out.1, H6.out.2.1⟩ : Rn w w6 r gp gk (R5.rounds 0) ∧ Kp w2 w6 gp gk)⟩
              case round =>
                obtain ⟨j, rfl, hj, rfl, HB⟩ := hrel
                by_cases hj24 : j < 24
                · go_wp2_with (go_at_call 10; refine (round_r r gp gk (R5.rounds j) _ HB.out.1.ring).mono ?_; rintro e w8 ⟨rfl, h8, k8⟩)
                  go_roundg (24 - (j + 1))
                  case measure => omega
                  case rel => exact ⟨j + 1, by go_num, by omega, rfl, (⟨HB.out.1.step h8 HB.out.1.inv.round k8, HB.out.2.trans k8⟩ : Rn w w8 r gp gk (R5.rounds (j + 1)) ∧ Kp w2 w8 gp gk)⟩
                · obtain rfl : j = 24 := by omega
                  have hf := H6.out.2.2.four H6.out.1.inv
                  have hrg := H6.out.1.inv.calm (m := 24) (by rw [hf]; decide)
                  have hme := H6.out.2.2.rounds H6.out.1.inv 24
                  have hkn := back_end hrg hme
                  have hf9 := hme.four HB.out.1.inv
                  generalize R5.rounds 24 = R9 at HB hkn hf9
                  have H9 : Hid (Rn w wr r gp gk R9 ∧ RingAt wr r2 gp2 gk2 ringA) := ⟨HB.out.1, HS.out.1.beside HS.out.2.1 HB.out.2 HS.out.2.2.1 HS.out.2.2.2.1 HS.out.2.2.2.2⟩
                  have HK : Hid (R9.kn 0 = ringA.kn 0 ∧ R9.kn 1 = ringA.kn 1 ∧ R9.kn 2 = ringA.kn 2 ∧ R9.kn 3 = ringA.kn 3) := hkn
                  have HF : Hid (R9.live.length = 4) := by show R9.live.length = 4; rw [hf9]; rfl
                  obtain ⟨w9, hw9⟩ : ∃ w9, w9 = wr := ⟨_, rfl⟩
                  rw [← hw9] at H9 ⊢
                  clear hw9 hf hrg hme hkn hf9 HB
                  go_wp2
                  go_loopg [137] 4 (fun kx s wr => ∃ n : Nat, s = .int .i64 n ∧ n ≤ 4 ∧ kx = 4 - n ∧ Hid (Below w9.heap.size w9 wr))
                  case atStart => exact ⟨0, rfl, Nat.zero_le _, rfl, (Below.refl _ _ : Below w9.heap.size w9 w9)⟩
                  case round =>
                    obtain ⟨n, rfl, hn, rfl, HB⟩ := hrel
                    by_cases hn4 : n < 4
                    · obtain ⟨p, hp1, hp2, hpl⟩ := ringA_kn HK.out n hn4
                      obtain ⟨pid, ppr, psc⟩ := p
                      have HP : Hid (R9.kn n = some ⟨pid, ppr, psc⟩ ∧ ringA.kn n = some ⟨pid, ppr, psc⟩ ∧ psc.length ≤ 1000) := ⟨hp1, hp2, hpl⟩
                      clear hp1 hp2 hpl
                      go_wp2_with fail
                      refine (peer_some r gp gk R9 n _ _ (H9.out.1.ring.below HB.out) HP.out.1 HP.out.2.2).mono ?_
                      rintro e w10 ⟨a10, l10, c10, rfl, h10, b10⟩
                      simp only
                      have H10 : Hid (Below w9.heap.size w9 w10 ∧ InIn w10 a10 l10 psc) := ⟨HB.out.trans (b10.mono HB.out.size), h10.row⟩
                      clear h10 b10
                      obtain ⟨W11, hW11⟩ : ∃ W11, W11 = w10.alloc (.cells #[.int .u64 pid, .int .i64 ppr, .slice a10 l10 c10] 40) := ⟨_, rfl⟩
                      have b11 : Below w10.heap.size w10 W11 := by rw [hW11]; exact below_one _ _
                      have H11 : Hid (Below w9.heap.size w9 W11 ∧ InIn W11 a10 l10 psc) := ⟨H10.out.1.trans (b11.mono H10.out.1.size), H10.out.2.below (Nat.le_refl _) b11⟩
                      have x0 : W11.cell? ⟨w10.heap.size, 0, none⟩ = some (.int .u64 pid) := by rw [hW11]; simp
                      have x1 : W11.cell? ⟨w10.heap.size, 1, none⟩ = some (.int .i64 ppr) := by rw [hW11]; simp
                      have x2 : W11.cell? ⟨w10.heap.size, 2, none⟩ = some (.slice a10 l10 c10) := by rw [hW11]; simp
                      clear b11 H10
                      go_upto_region 43 with fail
                      rw [← hW11]
                      clear hW11
                      go_wp2_with fail
                      refine (peer_some r2 gp2 gk2 ringA n _ _ (H9.out.2.below H11.out.1) HP.out.2.1 HP.out.2.2).mono ?_
                      rintro e w12 ⟨a12, l12, c12, rfl, h12, b12⟩
                      simp only
                      have H12 : Hid (Below w9.heap.size w9 w12 ∧ InIn w12 a10 l10 psc ∧ InIn w12 a12 l12 psc) := ⟨H11.out.1.trans (b12.mono H11.out.1.size), H11.out.2.below (Nat.le_refl _) b12, h12.row⟩
                      have x0 := cell_grown x0 b12
                      have x1 := cell_grown x1 b12
                      have x2 := cell_grown x2 b12
                      clear h12 b12 H11
                      obtain ⟨W13, hW13⟩ : ∃ W13, W13 = w12.alloc (.cells #[.int .u64 pid, .int .i64 ppr, .slice a12 l12 c12] 40) := ⟨_, rfl⟩
                      have b13 : Below w12.heap.size w12 W13 := by rw [hW13]; exact below_one _ _
                      have H13 : Hid (Below w9.heap.size w9 W13 ∧ InIn W13 a10 l10 psc ∧ InIn W13 a12 l12 psc) := ⟨H12.out.1.trans (b13.mono H12.out.1.size), H12.out.2.1.below (Nat.le_refl _) b13, H12.out.2.2.below (Nat.le_refl _) b13⟩
                      replace x0 := cell_grown x0 b13
                      replace x1 := cell_grown x1 b13
                      replace x2 := cell_grown x2 b13
                      have y0 : W13.cell? ⟨w12.heap.size, 0, none⟩ = some (.int .u64 pid) := by rw [hW13]; simp
                      have y1 : W13.cell? ⟨w12.heap.size, 1, none⟩ = some (.int .i64 ppr) := by rw [hW13]; simp
                      have y2 : W13.cell? ⟨w12.heap.size, 2, none⟩ = some (.slice a12 l12 c12) := by rw [hW13]; simp
                      have xz := cell_block x0
                      have yz := cell_block y0
                      clear b13 H12
                      go_upto_region 44 with fail
                      rw [← hW13]
                      clear hW13
                      go_wp2_with (go_at_call 14; refine (same_any ⟨pid, ppr, psc⟩ ⟨pid, ppr, psc⟩ a10 a12 l10 l12 c10 c12 _ H13.out.2.1 H13.out.2.2).mono ?_; rintro e w14 ⟨rfl, b14⟩; rw [peB_self])
                      go_roundg (4 - (n + 1))
                      case measure => omega
                      case rel => exact ⟨n + 1, by go_num, by omega, rfl, H13.out.1.trans (b14.mono H13.out.1.size)⟩
                    · go_wp2_with (go_at_call 15; refine (live_r r gp gk R9 _ (H9.out.1.ring.below HB.out)).mono ?_; rintro e w10 ⟨la, lc, rfl, _, _, b10⟩; rw [HF.out])
                      go_ret
                      have bb := H9.out.1.bel.trans (HB.out.mono H9.out.1.bel.size)
                      exact ⟨rfl, bb.trans (b10.mono bb.size)⟩

/-! ### The row's step -/
set_option maxRecDepth 100000 in
theorem lifted (os : Os) (started : os.Started) (H : Type) (enc : TypeId × Value → H) :
    ReturnsInHanded {} Try.checked os 4 .any (Rows.wigwagBackSpec.pre6 enc Try.prog Try.f4 Rows.wigwagBackRow.domain false) (Rows.wigwagBackSpec.post enc Try.prog Try.f4 false true false false) := by
  refine returnsInHanded_of_change (C := Try.checked) own started (by kernel_rfl) Try.func4
    (ChangeSpec.witness6 (enc := enc) (C := Try.checked) false ⟨#[], #[.slice none 0 0, .slice none 0 0, .int .i64 0], []⟩ 8 (by kernel_rfl) (by kernel_rfl) (by kernel_rfl) (by kernel_rfl)) ?_
  intro W base args ds gs before hval0 hW hcnd _
  have hval : ∀ (j : Nat) t v, Try.f4.params[j]? = some t → args[j]? = some v → Value.okWide Try.prog W .any base t v := hval0
  have hW' := hW
  obtain ⟨p, q, hA0, hV, rfl, hfz, hnd⟩ := hW
  have hA : DataW.TrodAll enc Try.prog W 0 (fun _ => true) true Try.f4.params.toList args.toList ds p := hA0
  rw [Try.params4] at hA hval
  obtain ⟨v0, vs0, d0, ds0, p0, q0, hargs, rfl, rfl, h0, r0⟩ := trodAll_cons hA
  obtain ⟨v1, vs1, d1, ds1, p1, q1, rfl, rfl, rfl, h1, r1⟩ := trodAll_cons r0
  obtain ⟨v2, vs2, d2, ds2, p2, q2, rfl, rfl, rfl, h2, r2⟩ := trodAll_cons r1
  obtain ⟨rfl, rfl, rfl⟩ := trodAll_nil r2
  obtain rfl : args = #[v0, v1, v2] := by cases args; simp_all
  obtain ⟨rfl, rfl⟩ := trodVars_none hV
  obtain ⟨a0, len0, cap0, rfl⟩ := okWide_slice Try.underlying29 (hval 0 29 v0 rfl rfl)
  have k0 := h0
  have lt0 : ∀ x ∈ p0, x.block < W.heap.size := by obtain ⟨m, hm⟩ := k0; exact DataW.trod_lt m _ _ _ hm
  obtain ⟨t0, w0⟩ : ∃ ts, InRow 1 encU Go.Proofs.Ytgpamiggdeopbab.u64 0 W a0 len0 ts := by
    obtain ⟨fuel, hf⟩ := h0
    exact inrow_of 1 encU Go.Proofs.Ytgpamiggdeopbab.u64 0 29 23 Try.underlying29 cellsU1 (by omega) lenU (fun n cs x => uid_of n cs x) hf
  obtain ⟨a1, len1, cap1, rfl⟩ := okWide_slice Try.underlying38 (hval 1 38 v1 rfl rfl)
  have k1 := h1
  have lt1 : ∀ x ∈ p1, x.block < W.heap.size := by obtain ⟨m, hm⟩ := k1; exact DataW.trod_lt m _ _ _ hm
  obtain ⟨t1, w1⟩ : ∃ ts, InRow 1 encI i64 0 W a1 len1 ts := by
    obtain ⟨fuel, hf⟩ := h1
    exact inrow_of 1 encI i64 0 38 3 Try.underlying38 cellsI1 (by omega) lenI (fun n cs x => int_of n cs x) hf
  obtain ⟨a2, rfl, rfl, rfl, w2⟩ := open_int Try.underlying3 (hval 2 3 v2 rfl rfl) h2
  clear hA0 hval0
  refine (walk a0 len0 cap0 t0 a1 len1 cap1 t1 a2 W w0 w1 w2).mono fun e W' ⟨he, bel⟩ => ?_
  subst he
  exact ⟨_, rfl, _, _, _, [], _, [], hW', trodAll_mk1 (shut_bool Try.underlying4 _), (trodAll_cons_mk (Below.trod laidOut (by kernel_rfl) (of_decide_eq_true (by kernel_rfl)) k0 bel lt0) (trodAll_cons_mk (Below.trod laidOut (by kernel_rfl) (of_decide_eq_true (by kernel_rfl)) k1 bel lt1) (trodAll_cons_mk (shut_int Try.underlying3 w2) trodAll_mk0))), rfl, bel.frame _, fun h => by cases h⟩

theorem over : Rows.wigwagBackRow.holds Try.pinned (OpenSpec.ofChange Rows.wigwagBackSpec) :=
  OpenClaim.holds_of_wide 4 Try.f4 rfl rfl rfl rfl rfl rfl rfl ⟨rfl, rfl, rfl, rfl, rfl⟩ rfl rfl rfl rfl rfl (by kernel_rfl) Try.func4 (by kernel_rfl)
    (of_decide_eq_true (by kernel_rfl)) (by unfold Func.isWrapper; first | (rw [if_pos (by decide +kernel)]; kernel_rfl) | (rw [if_neg (by decide +kernel)]; exact ⟨rfl, rfl⟩))
    (fun os started H enc _ => lifted os started H enc)

end Go.Proofs.Ytgpamiggdeopbab.wigwagBack

namespace Go.Proofs.Ytgpamiggdeopbab
/-- For every list of places, every list of members and every number of rounds: members that come, and go again one by one as far as they may, leave the base members as they were. -/
theorem wigwagBack_holds : Rows.WigwagBackSaid := wigwagBack.over
#print axioms wigwagBack_holds
end Go.Proofs.Ytgpamiggdeopbab
