/- Proved: for any two lists of pairs, WindowRefused answers true (what is no event changes nothing; of any 30 events, any numbers in between).
  The frame is the guide's own shell (proof-skeleton.mjs) at this function; the walk and all ahead of it are mine. -/
import Derived.Test.YtmnlbheicedloabRows
import Derived.Test.YtmnlbheicedloabWiTwo
import Derived.Test.YtmnlbheicedloabWiRow
import Derived.Deep.QuietTactic
import Derived.BigQuiet
import Derived.Deep.RegionWith
import Derived.Deep.CutBlock
import Derived.Deep.DeepCutAuto
import Derived.Deep.LoopGhost
import Derived.WalkKit
import Derived.WalkLawsBesides
import Derived.ProofKit
import Derived.OpenShut
import Derived.ShutString
import Derived.ChangeOld
import Derived.Below
namespace Go.Proofs.Ytmnlbheicedloab.windowRefused
open Go.ChangeShapes Go.WideShapes Go.ChangeAt Go.RowKit
open Go.ChangeMaps (open_string shut_string)
set_option linter.unusedVariables false

theorem own : ownKnob Try.prog.godebug = none := by kernel_rfl
theorem laidOut : laidOutB Try.prog = true := by kernel_rfl


theorem bcellW {B : Nat} {w wr : World} (h : Below B w wr) (b o : Nat) (hb : b < B) : wr.cell? ⟨b, o, none⟩ = w.cell? ⟨b, o, none⟩ := h.cell (p := ⟨b, o, none⟩) hb
theorem bad_or {p n : Int} (h : ¬ EvOk p n) : p < 0 ∨ (¬ p < 0 ∧ 31 < p) ∨ (¬ p < 0 ∧ ¬ 31 < p ∧ n < 1) ∨ (¬ p < 0 ∧ ¬ 31 < p ∧ ¬ n < 1 ∧ 1073741824 < n) := by unfold EvOk at h; omega
theorem pair_at {w wr : World} {a : Option Addr} {len : Nat} {t : List (Int × Int)} (h : InRow 2 encP okP (0, 0) w a len t) (hB : Below w.heap.size w wr) {i : Nat} (hi : i < len) :
    ∃ b o p n, a = some ⟨b, o, none⟩ ∧ b < wr.heap.size ∧ b < w.heap.size ∧ wr.cell? ⟨b, o + i * 2, none⟩ = some (.int .i64 p) ∧ wr.cell? ⟨b, o + i * 2 + 1, none⟩ = some (.int .i64 n) := by
  obtain ⟨b, o, ha, hb, hcells⟩ := h.2.2.resolve_left (by omega)
  obtain ⟨hok, hc⟩ := hcells i hi
  have s0 := (bcellW hB b (o + i * 2 + 0) hb).trans (hc 0 (by omega))
  have s1 := (bcellW hB b (o + i * 2 + 1) hb).trans (hc 1 (by omega))
  exact ⟨b, o, _, _, ha, by have := hB.size; omega, hb, s0, s1⟩
theorem cell_two {w0 w w' : World} {r1 r2 : Nat} {L1 L2 : List (Int × Int)} {M1 M2 : List (Int × Int)} {b o : Nat} {v : Value} (h : Two w0 w r1 L1 r2 L2) (h' : Two w0 w' r1 M1 r2 M2) (hb : b < w0.heap.size) (hc : w.cell? ⟨b, o, none⟩ = some v) : w'.cell? ⟨b, o, none⟩ = some v := by
  rw [bcellW h'.bel b o hb, ← bcellW h.bel b o hb]; exact hc
/-- What the second list has there is no event. -/
def BadAt (w wr : World) (a : Option Addr) (len i : Nat) : Prop := ∃ b o p n, a = some ⟨b, o, none⟩ ∧ b < wr.heap.size ∧ b < w.heap.size ∧ wr.cell? ⟨b, o + i * 2, none⟩ = some (.int .i64 p) ∧ wr.cell? ⟨b, o + i * 2 + 1, none⟩ = some (.int .i64 n) ∧ ¬ EvOk p n ∧ i < len
/-! ### STEP 1: the walk -/
set_option maxRecDepth 100000 in
set_option maxHeartbeats 20000000 in
theorem walk (a0 : Option Addr) (len0 cap0 : Nat) (t0 : List (Int × Int)) (a1 : Option Addr) (len1 cap1 : Nat) (t1 : List (Int × Int)) (w : World) (w0 : InRow 2 encP okP ((0, 0) : Int × Int) w a0 len0 t0) (w1 : InRow 2 encP okP ((0, 0) : Int × Int) w a1 len1 t1) :
    Calls Try.prog 7 #[.slice a0 len0 cap0, .slice a1 len1 cap1] w fun e w' => e = .returned (.bool true) ∧ Below w.heap.size w w' := by
  have hmx0 := w0.2.1
  have hmx1 := w1.2.1
  have HX : Hid (InRow 2 encP okP (0, 0) w a0 len0 t0) := w0
  have HY : Hid (InRow 2 encP okP (0, 0) w a1 len1 t1) := w1
  clear w0 w1
  go_enter Try.func7, Try.ntmps7
  go_wp2
  go_loopw [7] (fun x wr => ∃ (i : Nat) (L : List (Int × Int)), x = .int .i64 i ∧ i ≤ len0 ∧ i ≤ 30 ∧ Hid (Two w wr w.heap.size L (w.heap.size + 1) L)) (fun x _ => 30 - (intOf x).toNat)
  case atStart => exact ⟨0, [], rfl, Nat.zero_le _, Nat.zero_le _, (Two.new w : Two _ _ _ _ _ _)⟩
  case round =>
    obtain ⟨i, L, rfl, hil, hi60, H⟩ := hrel
    by_cases hlt : i < len0 ∧ i < 30
    · obtain ⟨hl1, hl2⟩ := hlt
      have hi0 : (0 : Int) ≤ (i : Int) := Int.natCast_nonneg _
      have hi1 : (i : Int) < (len0 : Int) := by omega
      have hi2 : (i : Int) < 30 := by omega
      go_upto_region 5 with fail
      go_cut [59] (fun v wx => ∃ B : Bool, v = .bool B ∧ Hid (B = true → BadAt w wr a1 len1 i) ∧ wr = wx)
      case first =>
        by_cases hj : i < len1
        · have hj1 : (i : Int) < (len1 : Int) := by omega
          obtain ⟨c, d, x, y, ha, hc', hc, r0, r1⟩ := pair_at HY.out H.out.bel hj
          subst ha
          by_cases hE : EvOk x y
          · obtain ⟨q1, q2, q3, q4⟩ := hE
            have z1 : ¬ x < 0 := by omega
            have z2 : ¬ 31 < x := by omega
            have z3 : ¬ y < 1 := by omega
            have z4 : ¬ 1073741824 < y := by omega
            go_wp2_with fail
            go_meet
            exact ⟨false, by simp, fun h => absurd h (by decide), rfl⟩
          · have HB : Hid (BadAt w wr (some ⟨c, d, none⟩) len1 i) := ⟨c, d, x, y, rfl, hc', hc, r0, r1, hE, hj⟩
            have hor := bad_or hE
            clear hE
            rcases hor with h1 | ⟨h1, h2⟩ | ⟨h1, h2, h3⟩ | ⟨h1, h2, h3, h4⟩
            all_goals
              go_wp2_with fail
              go_meet
              exact ⟨true, by simp, fun _ => HB.out, rfl⟩
        · have hj1 : ¬ (i : Int) < (len1 : Int) := by omega
          go_wp2_with fail
          go_meet
          exact ⟨false, by simp, fun h => absurd h (by decide), rfl⟩
      case rest =>
        obtain ⟨B, rfl, hBad, hwx⟩ := hcut
        subst hwx
        cases B
        · have HW : Hid _ := H.out
          obtain ⟨b, o, p, n, ha, hb', hb, s0, s1⟩ := pair_at HX.out HW.out.bel hl1
          subst ha
          by_cases hE : EvOk p n
          · have HE : Hid (EvOk p n) := hE
            clear hE
            go_upto_region 9 with fail
            go_cut [10, 11] (fun x y wx => x = .int .i64 (whatL L p n) ∧ y = .nilIface ∧ Hid (Two w wx w.heap.size (comeL L p n) (w.heap.size + 1) L))
            case first =>
              go_region_with ((go_at_call 8; refine (HW.out.drew.come p n HE.out).mono ?_; rintro e w1 ⟨rfl, hw1⟩; have H1 : Hid _ := hw1; clear hw1))
              all_goals (try go_wp2_with fail)
              all_goals go_meet
              all_goals exact ⟨rfl, rfl, H1⟩
            case rest =>
              obtain ⟨rfl, rfl, H1⟩ := hcut
              rename World => w1
              have t0 := cell_two HW.out H1.out hb s0
              have t1 := cell_two HW.out H1.out hb s1
              have hb1 : b < w1.heap.size := by have := H1.out.bel.size; omega
              clear s0 s1 hb'
              go_upto_region 10 with fail
              go_cut [12, 13] (fun x y wx => x = .int .i64 (whatL L p n) ∧ y = .nilIface ∧ Hid (Two w wx w.heap.size (comeL L p n) (w.heap.size + 1) (comeL L p n)))
              case first =>
                go_region_with ((go_at_call 8; refine (H1.out.drew.come2 p n HE.out).mono ?_; rintro e w2 ⟨rfl, hw2⟩; have H2 : Hid _ := hw2; clear hw2))
                all_goals (try go_wp2_with fail)
                all_goals go_meet
                all_goals exact ⟨rfl, rfl, H2⟩
              case rest =>
                obtain ⟨rfl, rfl, H2⟩ := hcut
                rename World => w2
                have v0 := cell_two H1.out H2.out hb t0
                have hb2 : b < w2.heap.size := by have := H2.out.bel.size; omega
                clear t0 t1 hb1
                generalize whatL L p n = k
                generalize comeL L p n = M at H1 H2
                go_wp2_with fail
                go_quiet ((go_at_call 10; exact Calls.quiet_of_same (Two.lasts (H2.out.drewN _) p (lastL M p) rfl rfl _ (by first | exact .inl rfl | exact .inr rfl))))
                go_wp2
                go_roundw
                case rel => exact ⟨i + 1, M, by go_num, by omega, by omega, (H2.out.drewN _ : Two _ _ _ _ _ _)⟩
                case measure => simp [intOf]; omega
          · have HE : Hid (¬ EvOk p n) := hE
            clear hE
            go_upto_region 9 with fail
            go_cut [10, 11] (fun x y wx => x = .int .i64 0 ∧ y = .iface 39 (.int .i64 1) ∧ wr.drew = wx)
            case first =>
              go_region_with ((go_at_call 8; refine (come_bad _ _ _ _ HE.out).mono ?_; rintro e w1 ⟨rfl, rfl⟩))
              all_goals (try go_wp2_with fail)
              all_goals go_meet
              all_goals exact ⟨rfl, rfl, rfl⟩
            case rest =>
              obtain ⟨rfl, rfl, hw1⟩ := hcut
              have H1 := HW.out.drew
              rw [hw1] at H1
              have H1 : Hid _ := H1
              have t0 := cell_two HW.out H1.out hb s0
              have t1 := cell_two HW.out H1.out hb s1
              rename World => w1
              have hb1 : b < w1.heap.size := by have := H1.out.bel.size; omega
              clear s0 s1 hb' hw1
              go_upto_region 10 with fail
              go_cut [12, 13] (fun x y wx => x = .int .i64 0 ∧ y = .iface 39 (.int .i64 1) ∧ w1.drew = wx)
              case first =>
                go_region_with ((go_at_call 8; refine (come_bad _ _ _ _ HE.out).mono ?_; rintro e w2 ⟨rfl, rfl⟩))
                all_goals (try go_wp2_with fail)
                all_goals go_meet
                all_goals exact ⟨rfl, rfl, rfl⟩
              case rest =>
                obtain ⟨rfl, rfl, hw2⟩ := hcut
                have H2 := H1.out.drew
                rw [hw2] at H2
                have H2 : Hid _ := H2
                have v0 := cell_two H1.out H2.out hb t0
                rename World => w2
                have hb2 : b < w2.heap.size := by have := H2.out.bel.size; omega
                clear t0 t1 hb1 hw2
                go_wp2_with fail
                go_quiet ((go_at_call 10; exact Calls.quiet_of_same (Two.lasts (H2.out.drewN _) p (lastL L p) rfl rfl _ (by first | exact .inl rfl | exact .inr rfl))))
                go_wp2
                go_roundw
                case rel => exact ⟨i + 1, L, by go_num, by omega, by omega, (H2.out.drewN _ : Two _ _ _ _ _ _)⟩
                case measure => simp [intOf]; omega
        · obtain ⟨c, d, x, y, ha, hc', hc, r0, r1, hE, hj⟩ := hBad.out rfl
          subst ha
          have HEB : Hid (¬ EvOk x y) := hE
          have hj1 : (i : Int) < (len1 : Int) := by omega
          clear hE
          go_upto_region 6 with fail
          go_cut [8, 9] (fun x y wx => x = .int .i64 0 ∧ y = .iface 39 (.int .i64 1) ∧ wr.drew = wx)
          case first =>
            go_region_with ((go_at_call 8; refine (come_bad _ _ _ _ HEB.out).mono ?_; rintro e w1 ⟨rfl, rfl⟩))
            all_goals (try go_wp2_with fail)
            all_goals go_meet
            all_goals exact ⟨rfl, rfl, rfl⟩
          case rest =>
            obtain ⟨rfl, rfl, hw0⟩ := hcut
            have HW := H.out.drew
            rw [hw0] at HW
            have HW : Hid _ := HW
            clear hw0 r0 r1 hc' hc
            rename World => wz
            obtain ⟨b, o, p, n, ha, hb', hb, s0, s1⟩ := pair_at HX.out HW.out.bel hl1
            subst ha
            by_cases hE : EvOk p n
            · have HE : Hid (EvOk p n) := hE
              clear hE
              go_upto_region 9 with fail
              go_cut [10, 11] (fun x y wx => x = .int .i64 (whatL L p n) ∧ y = .nilIface ∧ Hid (Two w wx w.heap.size (comeL L p n) (w.heap.size + 1) L))
              case first =>
                go_region_with ((go_at_call 8; refine (HW.out.drew.come p n HE.out).mono ?_; rintro e w1 ⟨rfl, hw1⟩; have H1 : Hid _ := hw1; clear hw1))
                all_goals (try go_wp2_with fail)
                all_goals go_meet
                all_goals exact ⟨rfl, rfl, H1⟩
              case rest =>
                obtain ⟨rfl, rfl, H1⟩ := hcut
                rename World => w1
                have t0 := cell_two HW.out H1.out hb s0
                have t1 := cell_two HW.out H1.out hb s1
                have hb1 : b < w1.heap.size := by have := H1.out.bel.size; omega
                clear s0 s1 hb'
                go_upto_region 10 with fail
                go_cut [12, 13] (fun x y wx => x = .int .i64 (whatL L p n) ∧ y = .nilIface ∧ Hid (Two w wx w.heap.size (comeL L p n) (w.heap.size + 1) (comeL L p n)))
                case first =>
                  go_region_with ((go_at_call 8; refine (H1.out.drew.come2 p n HE.out).mono ?_; rintro e w2 ⟨rfl, hw2⟩; have H2 : Hid _ := hw2; clear hw2))
                  all_goals (try go_wp2_with fail)
                  all_goals go_meet
                  all_goals exact ⟨rfl, rfl, H2⟩
                case rest =>
                  obtain ⟨rfl, rfl, H2⟩ := hcut
                  rename World => w2
                  have v0 := cell_two H1.out H2.out hb t0
                  have hb2 : b < w2.heap.size := by have := H2.out.bel.size; omega
                  clear t0 t1 hb1
                  generalize whatL L p n = k
                  generalize comeL L p n = M at H1 H2
                  go_wp2_with fail
                  go_quiet ((go_at_call 10; exact Calls.quiet_of_same (Two.lasts (H2.out.drewN _) p (lastL M p) rfl rfl _ (by first | exact .inl rfl | exact .inr rfl))))
                  go_wp2
                  go_roundw
                  case rel => exact ⟨i + 1, M, by go_num, by omega, by omega, (H2.out.drewN _ : Two _ _ _ _ _ _)⟩
                  case measure => simp [intOf]; omega
            · have HE : Hid (¬ EvOk p n) := hE
              clear hE
              go_upto_region 9 with fail
              go_cut [10, 11] (fun x y wx => x = .int .i64 0 ∧ y = .iface 39 (.int .i64 1) ∧ wz.drew = wx)
              case first =>
                go_region_with ((go_at_call 8; refine (come_bad _ _ _ _ HE.out).mono ?_; rintro e w1 ⟨rfl, rfl⟩))
                all_goals (try go_wp2_with fail)
                all_goals go_meet
                all_goals exact ⟨rfl, rfl, rfl⟩
              case rest =>
                obtain ⟨rfl, rfl, hw1⟩ := hcut
                have H1 := HW.out.drew
                rw [hw1] at H1
                have H1 : Hid _ := H1
                have t0 := cell_two HW.out H1.out hb s0
                have t1 := cell_two HW.out H1.out hb s1
                rename World => w1
                have hb1 : b < w1.heap.size := by have := H1.out.bel.size; omega
                clear s0 s1 hb' hw1
                go_upto_region 10 with fail
                go_cut [12, 13] (fun x y wx => x = .int .i64 0 ∧ y = .iface 39 (.int .i64 1) ∧ w1.drew = wx)
                case first =>
                  go_region_with ((go_at_call 8; refine (come_bad _ _ _ _ HE.out).mono ?_; rintro e w2 ⟨rfl, rfl⟩))
                  all_goals (try go_wp2_with fail)
                  all_goals go_meet
                  all_goals exact ⟨rfl, rfl, rfl⟩
                case rest =>
                  obtain ⟨rfl, rfl, hw2⟩ := hcut
                  have H2 := H1.out.drew
                  rw [hw2] at H2
                  have H2 : Hid _ := H2
                  have v0 := cell_two H1.out H2.out hb t0
                  rename World => w2
                  have hb2 : b < w2.heap.size := by have := H2.out.bel.size; omega
                  clear t0 t1 hb1 hw2
                  go_wp2_with fail
                  go_quiet ((go_at_call 10; exact Calls.quiet_of_same (Two.lasts (H2.out.drewN _) p (lastL L p) rfl rfl _ (by first | exact .inl rfl | exact .inr rfl))))
                  go_wp2
                  go_roundw
                  case rel => exact ⟨i + 1, L, by go_num, by omega, by omega, (H2.out.drewN _ : Two _ _ _ _ _ _)⟩
                  case measure => simp [intOf]; omega
    · have hor : (True ∧ ¬ (i : Int) < (len0 : Int)) ∨ ((i : Int) < (len0 : Int) ∧ ¬ (i : Int) < 30) := by
        by_cases q : (i : Int) < (len0 : Int)
        · exact .inr ⟨q, by omega⟩
        · exact .inl ⟨trivial, q⟩
      clear hlt
      rcases hor with ⟨hor', hor⟩ | ⟨hor', hor⟩
      all_goals
        go_wp2_with (go_at_call 9; refine (awake14_any _).mono ?_; rintro e w8 ⟨rfl, hb8⟩; have H8 : Hid _ := H.out.below hb8; clear hb8)
        go_ret
        exact ⟨rfl, H8.out.bel⟩

/-! ### The row's step -/
set_option maxRecDepth 100000 in
theorem lifted (os : Os) (started : os.Started) (H : Type) (enc : TypeId × Value → H) :
    ReturnsInHanded {} Try.checked os 7 .any (Rows.windowRefusedSpec.pre6 enc Try.prog Try.f7 Rows.windowRefusedRow.domain false) (Rows.windowRefusedSpec.post enc Try.prog Try.f7 false true false false) := by
  refine returnsInHanded_of_change (C := Try.checked) own started (by kernel_rfl) Try.func7
    (ChangeSpec.witness6 (enc := enc) (C := Try.checked) false ⟨#[], #[.slice none 0 0, .slice none 0 0], []⟩ 8 (by kernel_rfl) (by kernel_rfl) (by kernel_rfl) (by kernel_rfl)) ?_
  intro W base args ds gs before hval0 hW hcnd _
  have hval : ∀ (j : Nat) t v, Try.f7.params[j]? = some t → args[j]? = some v → Value.okWide Try.prog W .any base t v := hval0
  have hW' := hW
  obtain ⟨p, q, hA0, hV, rfl, hfz, hnd⟩ := hW
  have hA : DataW.TrodAll enc Try.prog W 0 (fun _ => true) true Try.f7.params.toList args.toList ds p := hA0
  rw [Try.params7] at hA hval
  obtain ⟨v0, vs0, d0, ds0, p0, q0, hargs, rfl, rfl, h0, r0⟩ := trodAll_cons hA
  obtain ⟨v1, vs1, d1, ds1, p1, q1, rfl, rfl, rfl, h1, r1⟩ := trodAll_cons r0
  obtain ⟨rfl, rfl, rfl⟩ := trodAll_nil r1
  obtain rfl : args = #[v0, v1] := by cases args; simp_all
  obtain ⟨rfl, rfl⟩ := trodVars_none hV
  obtain ⟨a0, len0, cap0, rfl⟩ := okWide_slice Try.underlying22 (hval 0 22 v0 rfl rfl)
  have k0 := h0
  have lt0 : ∀ x ∈ p0, x.block < W.heap.size := by obtain ⟨m, hm⟩ := k0; exact DataW.trod_lt m _ _ _ hm
  obtain ⟨t0, w0⟩ : ∃ ts, InRow 2 encP okP ((0, 0) : Int × Int) W a0 len0 ts := by
    obtain ⟨fuel, hf⟩ := h0
    exact inrow_of 2 encP okP ((0, 0) : Int × Int) 22 30 Try.underlying22 cellsP2 (by omega) lenP (fun n cs x => pair_of n cs x) hf
  obtain ⟨a1, len1, cap1, rfl⟩ := okWide_slice Try.underlying22 (hval 1 22 v1 rfl rfl)
  have k1 := h1
  have lt1 : ∀ x ∈ p1, x.block < W.heap.size := by obtain ⟨m, hm⟩ := k1; exact DataW.trod_lt m _ _ _ hm
  obtain ⟨t1, w1⟩ : ∃ ts, InRow 2 encP okP ((0, 0) : Int × Int) W a1 len1 ts := by
    obtain ⟨fuel, hf⟩ := h1
    exact inrow_of 2 encP okP ((0, 0) : Int × Int) 22 30 Try.underlying22 cellsP2 (by omega) lenP (fun n cs x => pair_of n cs x) hf
  clear hA0 hval0
  refine (walk a0 len0 cap0 t0 a1 len1 cap1 t1 W w0 w1).mono fun e W' ⟨he, bel⟩ => ?_
  subst he
  exact ⟨_, rfl, _, _, _, [], _, [], hW', trodAll_mk1 (shut_bool Try.underlying4 _), (trodAll_cons_mk (Below.trod laidOut (by kernel_rfl) (of_decide_eq_true (by kernel_rfl)) k0 bel lt0) (trodAll_cons_mk (Below.trod laidOut (by kernel_rfl) (of_decide_eq_true (by kernel_rfl)) k1 bel lt1) trodAll_mk0)), rfl, bel.frame _, fun h => by cases h⟩

theorem over : Rows.windowRefusedRow.holds Try.pinned (OpenSpec.ofChange Rows.windowRefusedSpec) :=
  OpenClaim.holds_of_wide 7 Try.f7 rfl rfl rfl rfl rfl rfl rfl ⟨rfl, rfl, rfl, rfl, rfl⟩ rfl rfl rfl rfl rfl (by kernel_rfl) Try.func7 (by kernel_rfl)
    (of_decide_eq_true (by kernel_rfl)) (by unfold Func.isWrapper; first | (rw [if_pos (by decide +kernel)]; kernel_rfl) | (rw [if_neg (by decide +kernel)]; exact ⟨rfl, rfl⟩))
    (fun os started H enc _ => lifted os started H enc)

end Go.Proofs.Ytmnlbheicedloab.windowRefused

namespace Go.Proofs.Ytmnlbheicedloab
/-- Proved: for any two lists of pairs, WindowRefused answers true (what is no event changes nothing; of any 30 events, any numbers in between). -/
theorem windowRefused_holds : Rows.WindowRefusedSaid := windowRefused.over
#print axioms windowRefused_holds
end Go.Proofs.Ytmnlbheicedloab
