/- Proved: for every number, LinkFull answers true (so many texts wait at most; a text that is too long isn't taken; when the peer says that some came there is room again).
  The frame is the guide's own shell (proof-skeleton.mjs) at this function; the walk and all ahead of it are mine. -/
import Derived.Test.YtcclfibojmfjgabRows
import Derived.Test.YtcclfibojmfjgabLinkInv
import Derived.Test.YtcclfibojmfjgabIsCode
import Derived.Laws.OwnMore
import Derived.Laws.IdiomStrings
import Derived.Deep.LoopGhost
import Derived.WalkKit
import Derived.WalkLawsBesides
import Derived.ProofKit
import Derived.OpenShut
import Derived.ShutString
namespace Go.Proofs.Ytcclfibojmfjgab.linkFull
open Go.ChangeShapes Go.WideShapes Go.ChangeAt Go.RowKit
open Go.ChangeMaps (open_string shut_string)
set_option linter.unusedVariables false      -- a walk need not use every 'w<i>' (that an integer argument fits its kind)

theorem own : ownKnob Try.prog.godebug = none := by kernel_rfl


def tX : ByteArray := { data := #[120] }
def tY : ByteArray := { data := #[121] }
def xN (i : Nat) : Lk := ⟨List.replicate i tX, 0, 0, false⟩
theorem xN_push (i : Nat) : ({ xN i with q := (xN i).q ++ [tX] } : Lk) = xN (i + 1) := by simp [xN, List.replicate_succ']
theorem inv_start (Z : ByteArray) : Inv (xN 64) { lk0 with q := lk0.q ++ [Z] } (List.replicate 64 tX) [Z] :=
  ⟨by simp [xN], Int.le_refl 0, Int.le_refl 0, by simp [lk0], rfl, Int.le_refl 0, Int.le_refl 0, by simp [xN]⟩
/-- Both ends in the round. -/
def FS (w wr : World) (x y : Lk) (Z : ByteArray) : Prop := Two w wr x y ∧ Inv x y (List.replicate 64 tX) [Z]
theorem fs_ok (Z : ByteArray) (hZ : Z.size = 1970) {cm n c : Int} {s : ByteArray} (h : Tru (List.replicate 64 tX) cm n c s) (hm : cm ≤ 1) : PkOk n c s := tru_ok h (by simp) (by omega) (fun t ht => by rw [List.eq_of_mem_replicate ht]; decide)
theorem fs_ok2 (Z : ByteArray) (hZ : Z.size = 1970) {cm n c : Int} {s : ByteArray} (h : Tru [Z] cm n c s) (hm : cm ≤ 64) : PkOk n c s := tru_ok h (by simp) (by omega) (fun t ht => by rw [List.mem_singleton.1 ht]; omega)
theorem out_len_pos {l : Lk} (h : l.q ≠ [] ∨ l.owes = true) : 0 < l.out.length := by
  unfold Lk.out
  by_cases hq : l.q = []
  · rw [if_pos hq, if_pos (h.resolve_left (fun e => e hq))]; simp
  · rw [if_neg hq]; have := List.length_pos_iff.2 hq; simp [Lk.fst]; omega
theorem out_len_q {l : Lk} (h : l.q ≠ []) : l.out.length = min l.q.length 8 := by unfold Lk.out; rw [if_neg h]; simp [Lk.fst]
theorem zero_text (n : Nat) (hn : n ≤ 2000) (w : World) : ∃ (w1 : World) (S : ByteArray), (Instr.makeSlice 36 (.int .i64 (n : Int)) (.int .i64 (n : Int))).run Try.prog w = .ok (.slice (some ⟨w.heap.size, 0, none⟩) n n) w1 ∧
    (convert 36 9 (.slice (some ⟨w.heap.size, 0, none⟩) n n)).run Try.prog w1 = .ok (.string S) w1 ∧ S.size = n ∧ Below w.heap.size w w1 := by
  obtain ⟨i0, hi, hz0, hz1, hz2⟩ := info_parts Try.info5
  obtain ⟨w1, hr, hown, hg⟩ := run_makeSlice_full (P := Try.prog) w w.heap.size 36 5 i0 (.int .u8 0) 1 Try.underlying36 hi hz0 hz1 .i64 .i64 n (by omega) (by rw [hz2]; omega) (by unfold maxLen; omega) (Nat.le_refl _)
  have hl : (List.replicate n (0 : UInt8)).length = n := List.length_replicate
  have hcv := run_convert_bytes_back (P := Try.prog) w1 36 9 5 ⟨w.heap.size, 0, none⟩ n (List.replicate n 0) Try.underlying36 Try.underlying5 Try.underlying9 (fun j hj => by
    have hj' : j < n := by rw [hl] at hj; exact hj
    have e : (madeCells (Value.cells (.int .u8 0)) (n * 1)).toList[j]? = some (.int .u8 0) := by
      simp [madeCells, Value.cells, hj', Nat.mod_one]
    have := hown.cells (g := w.heap.size) rfl j _ e
    rw [this]; simp)
  rw [hl] at hcv
  exact ⟨w1, _, hr, hcv, by show (List.replicate n (0 : UInt8)).toArray.size = n; simp, ⟨hg.os, hg.tape, hg.output, hg.size, fun k hk => hg.block k hk (by simp)⟩⟩
/-! ### STEP 1: THE WALK: the Go text returns true. 'Grown w w'': the world has at most new blocks (Derived/RowKit3.lean). Part the cases AHEAD of 'go_enter' where a test parts the walk; take each callee by a contract of your own. -/
set_option maxRecDepth 100000 in
set_option maxHeartbeats 2000000 in
theorem walk (a0 : Int) (w0 : (Lit.int .i64 a0).wf = true) (w : World) :
    Calls Try.prog 4 #[.int .i64 a0] w fun e w' => e = .returned (.bool true) ∧ Below w.heap.size w w' := by
  clear w0
  by_cases hc : 0 ≤ a0 ∧ a0 ≤ 64
  · obtain ⟨ht0, ht1⟩ := hc
    obtain ⟨n, rfl⟩ : ∃ n : Nat, a0 = n := ⟨a0.toNat, by omega⟩
    have hn : n ≤ 64 := by omega
    go_enter Try.func4, Try.ntmps4
    go_wp2
    go_loopw [5] (fun y wr => ∃ i : Nat, y = .int .i64 i ∧ i ≤ 64 ∧ Hid (Two w wr (xN i) lk0)) (fun y _ => 64 - (intOf y).toNat)
    case atStart => exact ⟨0, rfl, Nat.zero_le _, (two_new w : Two w _ (xN 0) lk0)⟩
    case round =>
      obtain ⟨i, rfl, hi, H⟩ := hrel
      by_cases hlt : i < 64
      · go_wp2_with fail
        refine (push_a H.out tX (by decide) (by simp [xN]; exact hlt)).mono ?_
        rintro e w2 ⟨rfl, h2, _⟩
        rw [xN_push] at h2
        have H2 : Hid (Two w w2 (xN (i + 1)) lk0) := h2
        clear h2
        go_wp2
        go_roundw
        case rel => exact ⟨i + 1, by go_num, by omega, H2⟩
        case measure => simp [intOf]; omega
      · obtain rfl : i = 64 := by omega
        go_wp2_with fail
        refine (full_a H.out tX (by decide) (by simp [xN])).mono ?_
        rintro e w2 ⟨rfl, hw2⟩
        rw [hw2]
        clear hw2
        go_wp2_with fail
        refine (is_code 4 _).mono ?_
        rintro e w2 ⟨rfl, hw2⟩
        rw [hw2]
        clear hw2
        obtain ⟨v1, S1, m1, c1, z1, b1⟩ := zero_text 1971 (by omega) wr
        have m1' : (Instr.makeSlice 36 (.int .i64 1971) (.int .i64 1971)).run Try.prog wr = .ok (.slice (some ⟨wr.heap.size, 0, none⟩) 1971 1971) v1 := m1
        clear m1
        have HZ1 : Hid (S1.size = 1971 ∧ Two w v1 (xN 64) lk0) := ⟨z1, H.out.below b1⟩
        clear z1 b1
        go_wp2_with fail
        refine (push_long _ 0 S1 _ (by rw [HZ1.out.1]; omega) (by rw [HZ1.out.1]; unfold maxLen; omega)).mono ?_
        rintro e w2 ⟨rfl, hw2⟩
        rw [hw2]
        clear hw2
        go_wp2_with fail
        refine (is_code 1 _).mono ?_
        rintro e w2 ⟨rfl, hw2⟩
        rw [hw2]
        clear hw2
        obtain ⟨v2, Z, m2, c2, z2, b2⟩ := zero_text 1970 (by omega) v1
        have m2' : (Instr.makeSlice 36 (.int .i64 1970) (.int .i64 1970)).run Try.prog v1 = .ok (.slice (some ⟨v1.heap.size, 0, none⟩) 1970 1970) v2 := m2
        clear m2
        have HZ2 : Hid (Z.size = 1970 ∧ Two w v2 (xN 64) lk0) := ⟨z2, HZ1.out.2.below b2⟩
        clear z2 b2 HZ1 H
        go_wp2_with fail
        refine (push_b HZ2.out.2 Z (by rw [HZ2.out.1]; omega) (by decide)).mono ?_
        rintro e w3 ⟨rfl, h3, _⟩
        have hF : FS w w3 (xN 64) { lk0 with q := lk0.q ++ [Z] } Z := ⟨h3, inv_start Z⟩
        have HF : Hid (FS w w3 (xN 64) { lk0 with q := lk0.q ++ [Z] } Z) := hF
        have HZ : Hid (Z.size = 1970) := HZ2.out.1
        clear h3 hF HZ2 c1 c2 m1' m2'
        go_wp2
        go_loopg [6] 64 (fun kx _ wr => ∃ (x y : Lk) (k : Nat), k ≤ n ∧ n - k ≤ kx ∧ Hid (FS w wr x y Z ∧ x.acked = k ∧ y.came = k)) 
        case atStart => exact ⟨_, _, 0, Nat.zero_le _, by omega, (⟨HF.out, rfl, rfl⟩ : FS w w3 (xN 64) { lk0 with q := lk0.q ++ [Z] } Z ∧ _ ∧ _)⟩
        case round =>
          obtain ⟨x, y, k, hkn, hkx, H⟩ := hrel
          have k2 : wr.cell? ⟨w.heap.size + 1, 2, none⟩ = some (.int .i64 y.came) := H.out.1.1.b.k2
          rw [H.out.2.2] at k2
          by_cases hlt : k < n
          · have hltI : (k : Int) < (n : Int) := by omega
            go_wp2_with fail
            refine (packs_a H.out.1.1).mono ?_
            rintro e w4 ⟨a, c, P, rfl, hcc, hT, hP, h4, _⟩
            have hI4 : Inv { x with owes := false } y (List.replicate 64 tX) [Z] := H.out.1.2.owes false
            have hxl := H.out.1.2.xlen
            have hxq : x.q ≠ [] := fun e => by
              rw [e, H.out.2.1] at hxl; simp at hxl; omega
            have hPl : P.length = min x.q.length 8 := by rw [bys_len hP, out_len_q hxq]
            have hP0 : 0 < P.length := by have := List.length_pos_iff.2 hxq; omega
            have hP8 : P.length ≤ 8 := by omega
            obtain ⟨b, o, ha, hb, hbase, hcells⟩ := hT.get 0 hP0
            subst ha
            have HP : Hid (bys P = x.out ∧ Inv x y (List.replicate 64 tX) [Z] ∧ x.acked = k ∧ x.q ≠ [] ∧ (x.q.length : Int) = 64 - k) := ⟨hP, H.out.1.2, H.out.2.1, hxq, by rw [H.out.2.1] at hxl; simpa using hxl⟩
            have H4 : Hid (FS w w4 { x with owes := false } y Z ∧ y.came = k ∧ TxRow (w.heap.size + 2) w4 (some ⟨b, o, none⟩) P) := ⟨⟨h4, hI4⟩, H.out.2.2, hT⟩
            clear hP hT h4 hI4 hxl hxq H hcells hb hbase
            go_wp2
            go_loopw [51] (fun q wr => ∃ (j : Nat) (y' : Lk), q = .int .i64 j ∧ j ≤ P.length ∧ Hid (FS w wr { x with owes := false } y' Z ∧ y'.came = (min (k + j) n : Nat) ∧ (0 < j → y'.owes = true) ∧ TxRow (w.heap.size + 2) wr (some ⟨b, o, none⟩) P)) (fun q _ => P.length - (intOf q).toNat)
            case atStart => exact ⟨0, y, rfl, Nat.zero_le _, (⟨H4.out.1, by rw [H4.out.2.1]; simp; omega, fun h => absurd h (Nat.lt_irrefl _), H4.out.2.2⟩ : FS w w4 { x with owes := false } y Z ∧ _ ∧ _ ∧ _)⟩
            case round =>
              obtain ⟨j, y', rfl, hj, H5⟩ := hrel
              by_cases hlt2 : j < P.length
              · have hj0 : (0 : Int) ≤ (j : Int) := Int.natCast_nonneg _
                have hj1 : (j : Int) < (P.length : Int) := by omega
                obtain ⟨b', o', e', hb', hbase', hcells'⟩ := H5.out.2.2.2.get j hlt2
                simp only [Option.some.injEq, Addr.mk.injEq, and_true] at e'
                obtain ⟨rfl, rfl⟩ := e'
                have c0 := hcells' j hlt2
                have k5 : wr.cell? ⟨w.heap.size + 1, 2, none⟩ = some (.int .i64 y'.came) := H5.out.1.1.b.k2
                rw [H5.out.2.1] at k5
                have e0 := bys_get HP.out.1 j hlt2
                obtain ⟨n0, s0, hpk, htru, hn0, _⟩ := out_true HP.out.2.1 j (by rw [← bys_len HP.out.1]; exact hlt2)
                rw [hpk] at e0
                have hn0' : n0 = (k + j : Nat) := by rw [hn0 HP.out.2.2.2.1, HP.out.2.2.1]; simp
                have hcm1 : x.came ≤ 1 := by have := HP.out.2.1.y2; simpa using this
                obtain ⟨pj, hpj⟩ : ∃ q, q = tx P j := ⟨_, rfl⟩
                rw [← hpj] at c0 e0
                have htru' : Tru (List.replicate 64 tX) ({ x with owes := false } : Lk).came n0 x.came s0 := htru
                have HE : Hid (pj.data.toList = pkB n0 x.came s0 ∧ Tru (List.replicate 64 tX) ({ x with owes := false } : Lk).came n0 x.came s0 ∧ n0 = (k + j : Nat) ∧ x.came ≤ 1) := ⟨e0, htru', hn0', hcm1⟩
                clear hpj e0 hpk htru htru' hn0 hn0' hcm1 hcells' hb' hbase'
                by_cases hkj : k + j < n
                · have hmin : min (k + j) n = k + j := by omega
                  rw [hmin] at k5
                  have hkjI : (k : Int) + (j : Int) < (n : Int) := by omega
                  simp only [Int.natCast_add] at k5
                  go_wp2_with fail
                  refine (take_b H5.out.1.1 HE.out.1 (fs_ok Z HZ.out HE.out.2.1 HE.out.2.2.2) (by rw [H5.out.2.1]; omega)).mono ?_
                  rintro e w6 ⟨rfl, h6, k6⟩
                  have H6 : Hid (FS w w6 { x with owes := false } (y'.got n0 x.came) Z ∧ (y'.got n0 x.came).came = (min (k + (j + 1)) n : Nat) ∧ (0 < j + 1 → (y'.got n0 x.came).owes = true) ∧ TxRow (w.heap.size + 2) w6 (some ⟨b, o, none⟩) P) := by
                    have hn0 := HE.out.2.2.1
                    have hym := H5.out.2.1
                    rw [hmin] at hym
                    refine ⟨⟨h6, H5.out.1.2.got HE.out.2.1⟩, ?_, fun _ => got_owes (by rw [hn0]; omega), H5.out.2.2.2.keep k6⟩
                    rw [got_came, if_pos ⟨by rw [hn0]; omega, by rw [hn0, hym]⟩, hym]; omega
                  clear h6 k6
                  go_wp2
                  go_roundw
                  case rel => exact ⟨j + 1, _, by go_num, by omega, H6⟩
                  case measure => simp [intOf]; omega
                · have hmin : min (k + j) n = n := by omega
                  rw [hmin] at k5
                  go_wp2
                  go_roundw
                  case rel => exact ⟨j + 1, y', by go_num, by omega, (⟨H5.out.1, by rw [H5.out.2.1]; congr 1; omega, fun _ => H5.out.2.2.1 (by omega), H5.out.2.2.2⟩ : FS w wr { x with owes := false } y' Z ∧ _ ∧ _ ∧ _)⟩
                  case measure => simp [intOf]; omega
              · obtain rfl : j = P.length := by omega
                have k5 : wr.cell? ⟨w.heap.size + 1, 2, none⟩ = some (.int .i64 y'.came) := H5.out.1.1.b.k2
                rw [H5.out.2.1] at k5
                obtain ⟨k', hk'⟩ : ∃ k', k' = min (k + P.length) n := ⟨_, rfl⟩
                rw [← hk'] at k5
                have hkk : k < k' := by omega
                have hkk2 : k' ≤ n := by omega
                have hne : ((k' : Int) == (k : Int)) = false := by simp; omega
                have hpb := packs_b H5.out.1.1
                have H6 : Hid (FS w wr { x with owes := false } y' Z ∧ y'.came = (k' : Nat) ∧ y'.owes = true) := ⟨H5.out.1, by rw [H5.out.2.1, hk'], H5.out.2.2.1 hP0⟩
                clear hk' H5
                go_wp2_with fail
                refine hpb.mono ?_
                rintro e w7 ⟨a7, c7, P7, rfl, hc7, hT7, hP7, h7, _⟩
                have hI7 : Inv { x with owes := false } { y' with owes := false } (List.replicate 64 tX) [Z] := (H6.out.1.2.swap.owes false).swap
                have hPl7 : 0 < P7.length := by rw [bys_len hP7]; exact out_len_pos (.inr H6.out.2.2)
                obtain ⟨b7, o7, ha7, hb7, hbase7, hcells7⟩ := hT7.get 0 hPl7
                subst ha7
                have hP78 : P7.length ≤ 8 := by
                  rw [bys_len hP7]; unfold Lk.out; split
                  · split <;> simp
                  · simp [Lk.fst]; omega
                have H7 : Hid (bys P7 = y'.out ∧ Inv y' { x with owes := false } [Z] (List.replicate 64 tX) ∧ y'.came = (k' : Nat) ∧ FS w w7 { x with owes := false } { y' with owes := false } Z ∧ TxRow (w.heap.size + 2) w7 (some ⟨b7, o7, none⟩) P7) := ⟨hP7, H6.out.1.2.swap, H6.out.2.1, ⟨h7, hI7⟩, hT7⟩
                clear hpb hP7 hT7 h7 hI7 hcells7 hb7 hbase7
                go_wp2
                go_loopw [68] (fun q wr => ∃ (j : Nat) (x' : Lk), q = .int .i64 j ∧ j ≤ P7.length ∧ Hid (FS w wr x' { y' with owes := false } Z ∧ x'.acked = (if j = 0 then (k : Int) else (k' : Int)) ∧ TxRow (w.heap.size + 2) wr (some ⟨b7, o7, none⟩) P7)) (fun q _ => P7.length - (intOf q).toNat)
                case atStart => exact ⟨0, { x with owes := false }, rfl, Nat.zero_le _, (⟨H7.out.2.2.2.1, by rw [if_pos rfl]; exact HP.out.2.2.1, H7.out.2.2.2.2⟩ : FS w w7 { x with owes := false } { y' with owes := false } Z ∧ _ ∧ _)⟩
                case round =>
                  obtain ⟨j, x', rfl, hj7, H8⟩ := hrel
                  by_cases hlt7 : j < P7.length
                  · have hj0 : (0 : Int) ≤ (j : Int) := Int.natCast_nonneg _
                    have hj1 : (j : Int) < (P7.length : Int) := by omega
                    obtain ⟨b', o', e', hb', hbase', hcells'⟩ := H8.out.2.2.get j hlt7
                    simp only [Option.some.injEq, Addr.mk.injEq, and_true] at e'
                    obtain ⟨rfl, rfl⟩ := e'
                    have c0 := hcells' j hlt7
                    have e0 := bys_get H7.out.1 j hlt7
                    obtain ⟨n0, s0, hpk, htru, _, _⟩ := out_true H7.out.2.1 j (by rw [← bys_len H7.out.1]; exact hlt7)
                    rw [hpk] at e0
                    obtain ⟨pj, hpj⟩ : ∃ q, q = tx P7 j := ⟨_, rfl⟩
                    rw [← hpj] at c0 e0
                    have htru' : Tru [Z] ({ y' with owes := false } : Lk).came n0 y'.came s0 := htru
                    have HE : Hid (pj.data.toList = pkB n0 y'.came s0 ∧ Tru [Z] ({ y' with owes := false } : Lk).came n0 y'.came s0) := ⟨e0, htru'⟩
                    clear hpj e0 hpk htru htru' hcells' hb' hbase'
                    go_wp2_with fail
                    refine (take_a H8.out.1.1 HE.out.1 (fs_ok2 Z HZ.out HE.out.2 (by show y'.came ≤ 64; rw [H7.out.2.2.1]; omega)) (by have := H8.out.1.2.y2; simp at this; omega)).mono ?_
                    rintro e w9 ⟨rfl, h9, k9⟩
                    have H9 : Hid (FS w w9 (x'.got n0 y'.came) { y' with owes := false } Z ∧ (x'.got n0 y'.came).acked = (if j + 1 = 0 then (k : Int) else (k' : Int)) ∧ TxRow (w.heap.size + 2) w9 (some ⟨b7, o7, none⟩) P7) := by
                      refine ⟨⟨h9, (H8.out.1.2.swap.got HE.out.2).swap⟩, ?_, H8.out.2.2.keep k9⟩
                      rw [if_neg (by omega)]
                      have hac := H8.out.2.1
                      have hxl := H8.out.1.2.xlen
                      have hcm := H7.out.2.2.1
                      by_cases ej : j = 0
                      · rw [if_pos ej] at hac
                        rw [got_acked (by rw [hac, hcm]; omega) (by rw [hxl, hcm, hac]; simp; omega), hcm]
                      · rw [if_neg ej] at hac
                        rw [got_acked_same (by rw [hac, hcm]; omega), hac]
                    clear h9 k9
                    go_wp2
                    go_roundw
                    case rel => exact ⟨j + 1, _, by go_num, by omega, H9⟩
                    case measure => simp [intOf]; omega
                  · obtain rfl : j = P7.length := by omega
                    go_wp2
                    go_roundg (n - k')
                    case measure => omega
                    case rel => exact ⟨_, _, k', hkk2, Nat.le_refl _, (⟨H8.out.1, by rw [H8.out.2.1, if_neg (by omega)], H7.out.2.2.1⟩ : FS w wr x' { y' with owes := false } Z ∧ _ ∧ _)⟩
          · obtain rfl : k = n := by omega
            have hxl := H.out.1.2.xlen
            rw [H.out.2.1] at hxl
            have H4 : Hid (Two w wr x y ∧ x.q.length = 64 - k) := ⟨H.out.1.1, by simp at hxl; omega⟩
            clear hxl H
            go_wp2
            go_loopw [11] (fun q wr => ∃ (i : Nat) (x' : Lk), q = .int .i64 i ∧ i ≤ k ∧ Hid (Two w wr x' y ∧ x'.q.length = 64 - k + i)) (fun q _ => k - (intOf q).toNat)
            case atStart => exact ⟨0, x, rfl, Nat.zero_le _, H4⟩
            case round =>
              obtain ⟨i, x', rfl, hi, H5⟩ := hrel
              by_cases hlt3 : i < k
              · go_wp2_with fail
                refine (push_a H5.out.1 tY (by decide) (by rw [H5.out.2]; omega)).mono ?_
                rintro e w5 ⟨rfl, h6, _⟩
                have H6 : Hid (Two w w5 { x' with q := x'.q ++ [tY] } y ∧ ({ x' with q := x'.q ++ [tY] } : Lk).q.length = 64 - k + (i + 1)) := ⟨h6, by show (x'.q ++ [tY]).length = _; rw [List.length_append, H5.out.2]; rfl⟩
                clear h6
                go_wp2
                go_roundw
                case rel => exact ⟨i + 1, _, by go_num, by omega, H6⟩
                case measure => simp [intOf]; omega
              · obtain rfl : i = k := by omega
                go_wp2_with fail
                refine (lawake_any _).mono ?_
                rintro e w8 ⟨rfl, hb8⟩
                have H8 : Hid (Two w w8 x' y ∧ 64 ≤ x'.q.length) := ⟨H5.out.1.below hb8, by rw [H5.out.2]; omega⟩
                clear hb8
                go_wp2_with fail
                refine (full_a H8.out.1 tY (by decide) H8.out.2).mono ?_
                rintro e w9 ⟨rfl, hw9⟩
                rw [hw9]
                clear hw9
                go_wp2_with fail
                refine (is_code 4 _).mono ?_
                rintro e w9 ⟨rfl, hw9⟩
                rw [hw9]
                clear hw9
                go_wp2
                go_ret
                exact ⟨rfl, H8.out.1.bel⟩
  · have hc' : a0 < 0 ∨ (0 ≤ a0 ∧ 64 < a0) := by omega
    clear hc
    rcases hc' with hc | ⟨hc1, hc⟩
    all_goals
      go_enter Try.func4, Try.ntmps4
      go_wp2_with (go_at_call 11; refine (lawake_any _).mono ?_; rintro e w4 ⟨rfl, hb4⟩)
      all_goals
        go_ret
        exact ⟨rfl, hb4⟩

/-! ### THE ROW's STEP: WRITTEN OUT: LEAVE IT -/
set_option maxRecDepth 100000 in
theorem lifted (os : Os) (started : os.Started) (H : Type) (enc : TypeId × Value → H) :
    ReturnsInHanded {} Try.checked os 4 .any (Rows.linkFullSpec.pre6 enc Try.prog Try.f4 Rows.linkFullRow.domain false) (Rows.linkFullSpec.post enc Try.prog Try.f4 false true false false) := by
  refine returnsInHanded_of_change (C := Try.checked) own started (by kernel_rfl) Try.func4
    (ChangeSpec.witness6 (enc := enc) (C := Try.checked) false ⟨#[], #[.int .i64 0], []⟩ 8 (by kernel_rfl) (by kernel_rfl) (by kernel_rfl) (by kernel_rfl)) ?_
  intro W base args ds gs before hval0 hW hcnd _
  have hval : ∀ (j : Nat) t v, Try.f4.params[j]? = some t → args[j]? = some v → Value.okWide Try.prog W .any base t v := hval0
  have hW' := hW
  obtain ⟨p, q, hA0, hV, rfl, hfz, hnd⟩ := hW
  have hA : DataW.TrodAll enc Try.prog W 0 (fun _ => true) true Try.f4.params.toList args.toList ds p := hA0
  rw [Try.params4] at hA hval
  obtain ⟨v0, vs0, d0, ds0, p0, q0, hargs, rfl, rfl, h0, r0⟩ := trodAll_cons hA
  obtain ⟨rfl, rfl, rfl⟩ := trodAll_nil r0
  obtain rfl : args = #[v0] := by cases args; simp_all
  obtain ⟨rfl, rfl⟩ := trodVars_none hV
  obtain ⟨a0, rfl, rfl, rfl, w0⟩ := open_int Try.underlying3 (hval 0 3 v0 rfl rfl) h0
  clear hA0 hval0
  simp only [List.append_nil] at hW'
  refine (walk a0 w0 W).mono fun e W' ⟨he, bel⟩ => ?_
  subst he
  exact ⟨_, rfl, _, _, _, [], [], [], hW', trodAll_mk1 (shut_bool Try.underlying4 _), (trodAll_cons_mk (shut_int Try.underlying3 w0) trodAll_mk0), rfl, bel.frame _, fun h => by cases h⟩

theorem over : Rows.linkFullRow.holds Try.pinned (OpenSpec.ofChange Rows.linkFullSpec) :=
  OpenClaim.holds_of_wide 4 Try.f4 rfl rfl rfl rfl rfl rfl rfl ⟨rfl, rfl, rfl, rfl, rfl⟩ rfl rfl rfl rfl rfl (by kernel_rfl) Try.func4 (by kernel_rfl)
    (of_decide_eq_true (by kernel_rfl)) (by unfold Func.isWrapper; first | (rw [if_pos (by decide +kernel)]; kernel_rfl) | (rw [if_neg (by decide +kernel)]; exact ⟨rfl, rfl⟩))
    (fun os started H enc _ => lifted os started H enc)

end Go.Proofs.Ytcclfibojmfjgab.linkFull

namespace Go.Proofs.Ytcclfibojmfjgab
/-- Proved: for every number, LinkFull answers true (so many texts wait at most; a text that is too long isn't taken; when the peer says that some came there is room again). -/
theorem linkFull_holds : Rows.LinkFullSaid := linkFull.over
#print axioms linkFull_holds
end Go.Proofs.Ytcclfibojmfjgab
