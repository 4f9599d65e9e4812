/- Proved: for every list of things, CodeBack answers true (what is written of the first 40, their texts cut to 200 bytes, is read again, thing by thing).
  The frame is the guide's own shell (proof-skeleton.mjs) at this function; the walk and all ahead of it are mine. -/
import Derived.Test.YticdikllfkfkfaaRows
import Derived.Test.YticdikllfkfkfaaAid
import Derived.Test.YticdikllfkfkfaaCodeMath
import Derived.Test.YticdikllfkfkfaaOwnSrc
import Derived.Test.YticdikllfkfkfaaCodeW
import Derived.Test.YticdikllfkfkfaaCodeR
import Derived.Test.YticdikllfkfkfaaCodeR2
import Derived.Test.YticdikllfkfkfaaCodeIs
import Derived.Test.YticdikllfkfkfaaCodeAwake
import Derived.Test.YticdikllfkfkfaaCodeKeep
import Derived.Test.YticdikllfkfkfaaCut
import Derived.Test.YticdikllfkfkfaaThings
import Derived.Test.YticdikllfkfkfaaCodePut
import Derived.Test.YticdikllfkfkfaaThingsFrame
import Derived.Test.YticdikllfkfkfaaThingsUse
import Derived.Test.YticdikllfkfkfaaCodeRI
import Derived.Test.YticdikllfkfkfaaCodeRT
import Derived.Test.YticdikllfkfkfaaCodeCutAid
import Derived.Test.YticdikllfkfkfaaCodeBelow
import Derived.WalkKit
import Derived.WalkLawsBesides
import Derived.ProofKit
import Derived.OpenShut
import Derived.ShutString
import Derived.ChangeOld
import Derived.Below
namespace Go.Proofs.Yticdikllfkfkfaa.codeBack
open Go.ChangeShapes Go.WideShapes Go.ChangeAt Go.RowKit
open Go.ChangeMaps (open_string shut_string)
set_option linter.unusedVariables false

theorem own : ownKnob Try.prog.godebug = none := by kernel_rfl
theorem laidOut : laidOutB Try.prog = true := by kernel_rfl


theorem same_cell {w w' : World} {q b o : Nat} {v : Value} (h : Same w w' q) (hc : w.cell? ⟨b, o, none⟩ = some v) (hb : b ≠ q) : w'.cell? ⟨b, o, none⟩ = some v := by
  rw [← hc]; exact World.cell?_of_block (h.block b hb)
theorem ext_mid (S t : ByteArray) (A rest : List UInt8) (h : S.data.toList = A ++ (t.data.toList ++ rest)) : S.extract A.length (A.length + t.size) = t := by
  apply ByteArray.ext
  rw [ByteArray.data_extract]
  apply Array.toList_inj.1
  rw [Array.toList_extract, h]
  simp [List.extract]
theorem text_val (q : Nat) (s : ByteArray) (at' n k p e : Nat) (hp : p = at' + k) (he' : e = p + n) (x : ByteArray) (hx : s.extract p (p + n) = x) (most : Int) (w : World) (h : Rd w q s at' 0) (hat : at' ≤ s.size) (hs : s.size ≤ 1000000) (hr : rdNum 0 0 (s.data.toList.drop at') = (n, k, 0))
    (hm : most ≤ 9223372036854775807) (hn : (n : Int) ≤ max most 0) (he : p + n ≤ s.size) :
    Calls Try.prog 10 #[.pointer (some ⟨q, 0, none⟩), .int .i64 most] w
      fun e' w' => e' = .returned (.string x) ∧ Rd w' q s e 0 ∧ Same w w' q := by
  subst hx
  subst he'
  exact rtext_ok q s at' n k p hp most w h hat hs hr hm hn he
theorem read_on {B : Nat} {w0 w W w3 : World} {q g : Nat} {us : List Th} (hT : ThRow w g us) (hb : Below B w0 W) (hW : W.heap = w.heap) (hS : Same W w3 q) (hg : g ≠ q) (hq : B ≤ q) (hB : B ≤ w.heap.size) : ThRow w3 g us ∧ Below B w0 w3 :=
  ⟨hT.carry (by rw [hS.size, hW]; exact Nat.le_refl _) (by rw [hS.block g hg, hW]), hS.adds.below hq (by rw [hW]; exact hB) hb⟩
/-! ### STEP 1: the walk -/
set_option maxRecDepth 100000 in
set_option maxHeartbeats 2000000 in
theorem walk (a0 : Option Addr) (len0 cap0 : Nat) (t0 : List Th) (w : World) (w0 : IsThings w a0 len0 cap0 t0) :
    Calls Try.prog 3 #[.slice a0 len0 cap0] w fun e w' => e = .returned (.bool true) ∧ Below w.heap.size w w' := by
  have hok := fewOf_ok (m := 40) w0.oks
  have hlen := fewOf_len t0 40
  obtain ⟨us, hus⟩ : ∃ us, us = fewOf t0 40 := ⟨_, rfl⟩
  rw [← hus] at hok hlen
  have hbl : ∀ k, (bytesOf (us.take k)).length ≤ 8400 := fun k => by
    have h1 := bytesOf_len (us.take k) (fun u hu => Th.bytes_len u (hok u (List.mem_of_mem_take hu)).1 (hok u (List.mem_of_mem_take hu)).2)
    have h2 : (us.take k).length ≤ us.length := by simp; omega
    omega
  have b0 : Below w.heap.size w (w.alloc (.cells #[.slice none 0 0] 25)) := (Below.refl _ _).alloc (Nat.le_refl _) _
  have hW0 := wr_new w.heap.size w (Nat.le_refl _)
  have hT0 := w0.below b0
  go_enter Try.func3, Try.ntmps3
  go_wp2_with fail
  refine (few_of a0 len0 cap0 40 t0 _ hT0 (by omega)).mono ?_
  rw [← hus]
  rintro e w1 ⟨v, rfl, hown, hb1⟩
  have hW1 := hW0.below hb1
  have b1 := b0.trans (hb1.mono (by simp))
  have hrow := row_of hown
  have s1 := hW1.lt
  have HU : Hid (us = fewOf t0 40) := hus
  clear hus hown hb1 hW0 b0 hT0
  rcases hrow with ⟨a, c, hv, hu0⟩ | ⟨g, c, hv, hg, hpos, hrow⟩
  · rw [hv]
    subst hu0
    clear hv
    go_wp2
    refine wp_loop_rounds 1 ?_
    rw [rounds_succ]
    go_wp2_with fail
    refine (bytes_any w.heap.size w.heap.size _ _ w1 hW1).mono ?_
    rintro e w' ⟨rfl, hw'⟩
    subst w'
    go_wp2_with fail
    refine (open_any _ _).mono ?_
    rintro e w2 ⟨rfl, hw2⟩
    have hR2 : Rd w2 w1.heap.size ⟨#[]⟩ 0 0 := by rw [hw2]; exact rd_new _ _
    have b2 : Below w.heap.size w w2 := by rw [hw2]; exact b1.alloc (Nat.le_of_lt s1) _
    have hs2 : w1.heap.size < w2.heap.size := hR2.lt
    clear hw2
    go_wp2
    refine wp_loop_rounds 1 ?_
    rw [rounds_succ]
    go_wp2_with fail
    refine (cawake_any w2).mono ?_
    rintro e w3 ⟨rfl, hb3⟩
    have hR3 := hR2.below hb3
    have b3 := b2.trans (hb3.mono (by omega))
    have s3 := hb3.size
    clear hb3 hR2
    go_wp2_with fail
    refine (done_nil w1.heap.size _ _ w3 hR3 (fun h => Nat.lt_irrefl 0 h)).mono ?_
    rintro e w4 ⟨rfl, hR4, hA4⟩
    have b4 := hA4.below (B := w.heap.size) (by omega) (by omega) b3
    clear hA4 hR4 hR3
    go_wp2
    go_ret
    exact ⟨rfl, b4⟩
  · rw [hv]
    clear hv
    go_wp2
    have hgw : g ≠ w.heap.size := by simp at hg; omega
    go_loopw [14] (fun y wr => ∃ (k : Nat) (u : Value), k ≤ us.length ∧ y = .int .i64 k ∧ Wr w.heap.size wr w.heap.size u (bytesOf (us.take k)) ∧ ThRow wr g us ∧ u.ownBlock ≠ some g ∧ Below w.heap.size w wr)
      (fun y _ => us.length - (intOf y).toNat)
    case atStart => exact ⟨0, .slice none 0 0, Nat.zero_le _, rfl, hW1, hrow, by simp [Value.ownBlock], b1⟩
    case round =>
      obtain ⟨k, u, hk, rfl, hW, hR, hug, hb⟩ := hrel
      have hsz : w.heap.size < wr.heap.size := hW.lt
      by_cases hlt : k < us.length
      · obtain ⟨t, ht⟩ : ∃ t, t = us.getD k th0 := ⟨_, rfl⟩
        have hmem : us.getD k th0 ∈ us := by rw [List.getD_eq_getElem?_getD, List.getElem?_eq_getElem hlt]; simp
        have htok := hok _ hmem
        have g0 := hR.c0 k hlt
        have g1 := hR.c1 k hlt
        have g2 := hR.c2 k hlt
        have g3 := hR.c3 k hlt
        have HS : Hid (bytesOf (us.take (k + 1)) = bytesOf (us.take k) ++ t.bytes) := (by rw [ht]; exact bytesOf_snoc us k hlt : bytesOf (us.take (k + 1)) = bytesOf (us.take k) ++ t.bytes)
        rw [← ht] at htok g0 g1 g2 g3
        clear ht hmem
        have hbk := hbl k
        have hW' := hW.alloc (.cells #[.int .i64 t.kind, .int .i64 t.n, .int .u64 t.u, .string t.s] 29)
        have hR' := hR.alloc (.cells #[.int .i64 t.kind, .int .i64 t.n, .int .u64 t.u, .string t.s] 29)
        have hb' := hb.alloc (Nat.le_of_lt hsz) (.cells #[.int .i64 t.kind, .int .i64 t.n, .int .u64 t.u, .string t.s] 29)
        have hgl := hR.lt
        clear hW hR hb
        go_wp2_with fail
        refine (put_any w.heap.size w.heap.size u _ t _ hW' (by simp; omega) htok.1 htok.2 (by omega)).mono ?_
        rintro e w2 ⟨rfl, u2, hW2, hK2⟩
        have hR2 := hR'.kept hK2 hgw hug
        have b2 := hK2.below hW' hb' (by simp; omega)
        have hug2 : u2.ownBlock ≠ some g := fun e => by
          rcases hK2.own g e with h1 | h1
          · exact hug h1
          · simp at h1; omega
        clear hK2 hW' hR' hb' g0 g1 g2 g3
        go_wp2
        go_roundw
        case rel => exact ⟨k + 1, u2, hlt, by go_num, by rw [HS.out]; exact hW2, hR2, hug2, b2⟩
        case measure => simp [intOf]; omega
      · have HE : us.take k = us := List.take_of_length_le (by omega)
        have hB84 := hbl us.length
        rw [List.take_length] at hB84
        rw [HE] at hW
        clear HE hW1 hrow b1
        have hgl := hR.lt
        go_wp2_with fail
        refine (bytes_any w.heap.size w.heap.size _ _ wr hW).mono ?_
        rintro e w' ⟨rfl, hw'⟩
        rw [hw']
        clear hw' w'
        obtain ⟨S, hS⟩ : ∃ S : ByteArray, S = ⟨(bytesOf us).toArray⟩ := ⟨_, rfl⟩
        have HL : Hid (S.data.toList = bytesOf us ∧ S.size = (bytesOf us).length) := by
          refine ⟨by rw [hS], ?_⟩
          rw [hS]; show (bytesOf us).toArray.size = _; simp
        rw [← hS]
        clear hS
        go_wp2_with fail
        refine (open_any _ _).mono ?_
        rintro e w2 ⟨rfl, hw2⟩
        have hR2 : Rd w2 wr.heap.size S 0 0 := by rw [hw2]; exact rd_new _ _
        have hT2 : ThRow w2 g us := by rw [hw2]; exact hR.alloc _
        have b2 : Below w.heap.size w w2 := by rw [hw2]; exact hb.alloc (Nat.le_of_lt hsz) _
        clear hw2 hb hW hR
        obtain ⟨q, hq⟩ : ∃ q, q = wr.heap.size := ⟨_, rfl⟩
        rw [← hq] at hR2 hsz hgl
        rw [← hq]
        clear hq
        go_wp2
        go_loopw [25] (fun y wq => ∃ j : Nat, j ≤ us.length ∧ y = .int .i64 j ∧ Rd wq q S (bytesOf (us.take j)).length 0 ∧ ThRow wq g us ∧ Below w.heap.size w wq)
          (fun y _ => us.length - (intOf y).toNat)
        case atStart => exact ⟨0, Nat.zero_le _, rfl, hR2, hT2, b2⟩
        case round =>
          obtain ⟨j, hj, rfl, hC, hT, bq⟩ := hrel
          have hql := hC.lt
          by_cases hjl : j < us.length
          · obtain ⟨t, ht⟩ : ∃ t, t = us.getD j th0 := ⟨_, rfl⟩
            have hmem : us.getD j th0 ∈ us := by rw [List.getD_eq_getElem?_getD, List.getElem?_eq_getElem hjl]; simp
            have htok := hok _ hmem
            have g0 := hT.c0 j hjl
            have g1 := hT.c1 j hjl
            have g2 := hT.c2 j hjl
            have g3 := hT.c3 j hjl
            have HD : Hid (S.data.toList.drop (bytesOf (us.take j)).length = t.bytes ++ bytesOf (us.drop (j + 1))) := (by rw [ht, HL.out.1]; exact bytesOf_drop us j hjl : S.data.toList.drop (bytesOf (us.take j)).length = t.bytes ++ bytesOf (us.drop (j + 1)))
            have HN : Hid ((bytesOf (us.take (j + 1))).length = (bytesOf (us.take j)).length + t.bytes.length) := (by rw [ht, bytesOf_snoc us j hjl, List.length_append] : (bytesOf (us.take (j + 1))).length = (bytesOf (us.take j)).length + t.bytes.length)
            have hsp : (bytesOf (us.take j)).length + t.bytes.length ≤ S.size := by
              have e := congrArg List.length HD.out
              rw [List.length_drop, List.length_append, HL.out.1, ← HL.out.2] at e
              have : (bytesOf (us.take j)).length ≤ (bytesOf us).length := by
                have e2 : bytesOf us = bytesOf (us.take j) ++ bytesOf (us.drop j) := by unfold bytesOf; rw [← List.flatMap_append, List.take_append_drop]
                rw [e2, List.length_append]; omega
              rw [← HL.out.2] at this
              omega
            have hS84 : S.size ≤ 8400 := by rw [HL.out.2]; omega
            rw [← ht] at htok g0 g1 g2 g3
            clear ht hmem
            obtain ⟨at', hat⟩ : ∃ a, a = (bytesOf (us.take j)).length := ⟨_, rfl⟩
            rw [← hat] at HD HN hsp hC
            have HA : Hid (at' = (bytesOf (us.take j)).length) := hat
            clear hat
            have hC' := hC.alloc (.cells #[.int .i64 t.kind, .int .i64 t.n, .int .u64 t.u, .string t.s] 29)
            have hT' := hT.alloc (.cells #[.int .i64 t.kind, .int .i64 t.n, .int .u64 t.u, .string t.s] 29)
            have bq' := bq.alloc (by omega) (.cells #[.int .i64 t.kind, .int .i64 t.n, .int .u64 t.u, .string t.s] 29)
            obtain ⟨q0, q1, q2, q3⟩ := th_block (heap_alloc_new wr (.cells #[.int .i64 t.kind, .int .i64 t.n, .int .u64 t.u, .string t.s] 29))
            have hun : t.u < 18446744073709551616 := htok.1.2.2.1
            have hzn := zig_lt t.n htok.1.2.1.1 htok.1.2.1.2
            have HO : Hid (t.ok ∧ t.s.size ≤ 200) := htok
            clear htok
            by_cases k1 : t.kind = 1
            · have kb1 : (t.kind == 1) = true := beq_iff_eq.2 k1
              have HB : Hid (t.bytes = numB t.u) := (by rw [Th.bytes, if_pos k1] : t.bytes = numB t.u)
              have hrd : rdNum 0 0 (S.data.toList.drop at') = (t.u, (numB t.u).length, 0) := by rw [HD.out, HB.out]; exact rd_back _ _ hun
              have HRD : Hid (rdNum 0 0 (S.data.toList.drop at') = (t.u, (numB t.u).length, 0)) := hrd
              clear k1 hrd hC hT bq
              go_wp2_with fail
              go_region_with (go_at_call 8
                              refine (rnumber_any q S at' t.u (numB t.u).length 0 _ ?_ (by omega) (by omega) HRD.out).mono ?_
                              exact hC'
                              rintro e w3 ⟨rfl, hR3, hS3⟩
                              have c3 := same_cell hS3 q2 (by omega))
              all_goals
                have r3 := read_on hT' bq'.drew rfl hS3 (by omega) (by omega) (by simp; omega)
                clear c3 hS3
                go_wp2
                go_roundw
                case rel => exact ⟨j + 1, hjl, by go_num, by rw [HN.out, HB.out]; exact hR3, r3.1, r3.2⟩
                case measure => simp [intOf]; omega
            · have kb1 : (t.kind == 1) = false := beq_eq_false_iff_ne.2 k1
              by_cases k2 : t.kind = 2
              · have kb2 : (t.kind == 2) = true := beq_iff_eq.2 k2
                have HB : Hid (t.bytes = numB (zig t.n)) := (by rw [Th.bytes, if_neg k1, if_pos (.inl k2)] : t.bytes = numB (zig t.n))
                have HRD : Hid (rdNum 0 0 (S.data.toList.drop at') = (zig t.n, (numB (zig t.n)).length, 0)) := (by rw [HD.out, HB.out]; exact rd_back _ _ hzn : rdNum 0 0 (S.data.toList.drop at') = (zig t.n, (numB (zig t.n)).length, 0))
                clear k1 k2 hC hT bq
                go_wp2_with fail
                go_region_with (go_at_call 9
                                refine (rint_val q S at' (zig t.n) (numB (zig t.n)).length 0 t.n _ ?_ (by omega) (by omega) HRD.out (zag_zig t.n)).mono ?_
                                exact hC'
                                rintro e w3 ⟨rfl, hR3, hS3⟩
                                have c3 := same_cell hS3 q1 (by omega))
                all_goals
                  have r3 := read_on hT' bq'.drew rfl hS3 (by omega) (by omega) (by simp; omega)
                  clear c3 hS3
                  go_wp2
                  go_roundw
                  case rel => exact ⟨j + 1, hjl, by go_num, by rw [HN.out, HB.out]; exact hR3, r3.1, r3.2⟩
                  case measure => simp [intOf]; omega
              · have kb2 : (t.kind == 2) = false := beq_eq_false_iff_ne.2 k2
                by_cases k3 : t.kind = 3
                · have kb3 : (t.kind == 3) = true := beq_iff_eq.2 k3
                  have HB : Hid (t.bytes = numB t.s.size ++ t.s.data.toList) := (by rw [Th.bytes, if_neg k1, if_neg (by omega), if_pos k3] : t.bytes = numB t.s.size ++ t.s.data.toList)
                  have hs2 := HO.out.2
                  have HRD : Hid (rdNum 0 0 (S.data.toList.drop at') = (t.s.size, (numB t.s.size).length, 0)) := (by rw [HD.out, HB.out, List.append_assoc]; exact rd_back _ _ (by omega) : rdNum 0 0 (S.data.toList.drop at') = (t.s.size, (numB t.s.size).length, 0))
                  have hbl2 : t.bytes.length = (numB t.s.size).length + t.s.size := by rw [HB.out, List.length_append]; simp
                  have HXT : Hid (S.extract (at' + (numB t.s.size).length) (at' + (numB t.s.size).length + t.s.size) = t.s) := by
                    have e1 : S.data.toList = (S.data.toList.take at' ++ numB t.s.size) ++ (t.s.data.toList ++ bytesOf (us.drop (j + 1))) := by
                      have h := HD.out
                      rw [HB.out] at h
                      calc S.data.toList = S.data.toList.take at' ++ S.data.toList.drop at' := (List.take_append_drop _ _).symm
                        _ = _ := by rw [h]; simp only [List.append_assoc]
                    have e2 : (S.data.toList.take at' ++ numB t.s.size).length = at' + (numB t.s.size).length := by
                      have : at' ≤ S.data.toList.length := by
                        have : S.data.toList.length = S.size := by simp
                        omega
                      rw [List.length_append, List.length_take, Nat.min_eq_left this]
                    have e3 := ext_mid S t.s _ _ e1
                    rw [e2] at e3
                    exact e3
                  have HEN : Hid (at' + t.bytes.length = at' + (numB t.s.size).length + t.s.size) := (by rw [hbl2]; omega : at' + t.bytes.length = at' + (numB t.s.size).length + t.s.size)
                  have hfit : at' + (numB t.s.size).length + t.s.size ≤ S.size := by omega
                  clear k1 k2 k3 hC hT bq hbl2
                  go_wp2_with fail
                  go_region_with (go_at_call 10
                                  refine (text_val q S at' t.s.size (numB t.s.size).length _ _ rfl HEN.out t.s HXT.out 200 _ ?_ (by omega) (by omega) HRD.out (by omega) (by omega) hfit).mono ?_
                                  exact hC'
                                  rintro e w3 ⟨rfl, hR3, hS3⟩
                                  have c3 := same_cell hS3 q3 (by omega))
                  all_goals
                    have r3 := read_on hT' bq'.drew rfl hS3 (by omega) (by omega) (by simp; omega)
                    clear c3 hS3
                    go_wp2
                    go_roundw
                    case rel => exact ⟨j + 1, hjl, by go_num, by rw [HN.out]; exact hR3, r3.1, r3.2⟩
                    case measure => simp [intOf]; omega
                · have kb3 : (t.kind == 3) = false := beq_eq_false_iff_ne.2 k3
                  by_cases k4 : t.kind = 4
                  · have kb4 : (t.kind == 4) = true := beq_iff_eq.2 k4
                    have HB : Hid (t.bytes = numB (zig t.n)) := (by rw [Th.bytes, if_neg k1, if_pos (.inr k4)] : t.bytes = numB (zig t.n))
                    have HRD : Hid (rdNum 0 0 (S.data.toList.drop at') = (zig t.n, (numB (zig t.n)).length, 0)) := (by rw [HD.out, HB.out]; exact rd_back _ _ hzn : rdNum 0 0 (S.data.toList.drop at') = (zig t.n, (numB (zig t.n)).length, 0))
                    have hn1 := HO.out.1.2.1.2
                    clear k1 k2 k3 k4 hC hT bq
                    rcases (show t.n < 0 ∨ (¬ t.n < 0 ∧ t.n = 9223372036854775807) ∨ (¬ t.n < 0 ∧ t.n < 9223372036854775807) by omega) with c1 | ⟨c1, c2⟩ | ⟨c1, c2⟩
                    · go_wp2_with fail
                      go_region_with (go_at_call 9
                                      refine (rint_val q S at' (zig t.n) (numB (zig t.n)).length 0 t.n _ ?_ (by omega) (by omega) HRD.out (zag_zig t.n)).mono ?_
                                      exact hC'
                                      rintro e w3 ⟨rfl, hR3, hS3⟩
                                      have c3 := same_cell hS3 q1 (by omega))
                      all_goals
                        have r3 := read_on hT' bq'.drew rfl hS3 (by omega) (by omega) (by simp; omega)
                        clear c3 hS3
                        go_wp2
                        go_roundw
                        case rel => exact ⟨j + 1, hjl, by go_num, by rw [HN.out, HB.out]; exact hR3, r3.1, r3.2⟩
                        case measure => simp [intOf]; omega
                    · have cb : (t.n == 9223372036854775807) = true := beq_iff_eq.2 c2
                      clear c2
                      go_wp2_with fail
                      go_region_with (go_at_call 9
                                      refine (rint_val q S at' (zig t.n) (numB (zig t.n)).length 0 t.n _ ?_ (by omega) (by omega) HRD.out (zag_zig t.n)).mono ?_
                                      exact hC'
                                      rintro e w3 ⟨rfl, hR3, hS3⟩
                                      have c3 := same_cell hS3 q1 (by omega))
                      all_goals
                        have r3 := read_on hT' bq'.drew rfl hS3 (by omega) (by omega) (by simp; omega)
                        clear c3 hS3
                        go_wp2
                        go_roundw
                        case rel => exact ⟨j + 1, hjl, by go_num, by rw [HN.out, HB.out]; exact hR3, r3.1, r3.2⟩
                        case measure => simp [intOf]; omega
                    · have cb : (t.n == 9223372036854775807) = false := beq_eq_false_iff_ne.2 (by omega)
                      have hwr : IntKind.i64.wrap (t.n + 1) = t.n + 1 := IntWalk.i64_in _ ⟨by omega, by omega⟩
                      go_wp2_with fail
                      go_region_with (go_at_call 11
                                      refine (rbelow_ok q S at' (zig t.n) (numB (zig t.n)).length t.n _ _ ?_ (by omega) (by omega) HRD.out (zag_zig t.n) (by omega) (by omega)).mono ?_
                                      exact hC'
                                      rintro e w3 ⟨rfl, hR3, hS3⟩
                                      have c3 := same_cell hS3 q1 (by omega))
                      all_goals
                        have r3 := read_on hT' bq'.drew rfl hS3 (by omega) (by omega) (by simp; omega)
                        clear c3 hS3
                        go_wp2
                        go_roundw
                        case rel => exact ⟨j + 1, hjl, by go_num, by rw [HN.out, HB.out]; exact hR3, r3.1, r3.2⟩
                        case measure => simp [intOf]; omega
                  · have kb4 : (t.kind == 4) = false := beq_eq_false_iff_ne.2 k4
                    have HB : Hid (t.bytes = []) := (by rw [Th.bytes, if_neg k1, if_neg (by omega), if_neg k3] : t.bytes = [])
                    clear k1 k2 k3 k4 hC hT bq
                    go_wp2
                    go_roundw
                    case rel => exact ⟨j + 1, hjl, by go_num, by rw [HN.out, HB.out]; exact hC', hT', bq'⟩
                    case measure => simp [intOf]; omega
          · have HE : us.take j = us := List.take_of_length_le (by omega)
            rw [HE, ← HL.out.2] at hC
            clear HE
            go_wp2_with fail
            refine (cawake_any wr).mono ?_
            rintro e w3 ⟨rfl, hb3⟩
            have hR3 := hC.below hb3
            have b3 := bq.trans (hb3.mono (by omega))
            have s3 := hb3.size
            clear hb3 hC bq
            go_wp2_with fail
            refine (done_nil q _ _ w3 hR3 (Nat.lt_irrefl _)).mono ?_
            rintro e w4 ⟨rfl, hR4, hA4⟩
            have b4 := hA4.below (B := w.heap.size) (by omega) (by omega) b3
            clear hA4 hR4 hR3
            go_wp2
            go_ret
            exact ⟨rfl, b4⟩

/-! ### The row's step -/
set_option maxRecDepth 100000 in
theorem lifted (os : Os) (started : os.Started) (H : Type) (enc : TypeId × Value → H) :
    ReturnsInHanded {} Try.checked os 3 .any (Rows.codeBackSpec.pre6 enc Try.prog Try.f3 Rows.codeBackRow.domain false) (Rows.codeBackSpec.post enc Try.prog Try.f3 false true false false) := by
  refine returnsInHanded_of_change (C := Try.checked) own started (by kernel_rfl) Try.func3
    (ChangeSpec.witness6 (enc := enc) (C := Try.checked) false ⟨#[], #[.slice none 0 0], []⟩ 8 (by kernel_rfl) (by kernel_rfl) (by kernel_rfl) (by kernel_rfl)) ?_
  intro W base args ds gs before hval0 hW hcnd _
  have hval : ∀ (j : Nat) t v, Try.f3.params[j]? = some t → args[j]? = some v → Value.okWide Try.prog W .any base t v := hval0
  have hW' := hW
  obtain ⟨p, q, hA0, hV, rfl, hfz, hnd⟩ := hW
  have hA : DataW.TrodAll enc Try.prog W 0 (fun _ => true) true Try.f3.params.toList args.toList ds p := hA0
  rw [Try.params3] at hA hval
  obtain ⟨v0, vs0, d0, ds0, p0, q0, hargs, rfl, rfl, h0, r0⟩ := trodAll_cons hA
  obtain ⟨rfl, rfl, rfl⟩ := trodAll_nil r0
  obtain rfl : args = #[v0] := by cases args; simp_all
  obtain ⟨rfl, rfl⟩ := trodVars_none hV
  obtain ⟨a0, len0, cap0, rfl⟩ := okWide_slice Try.underlying22 (hval 0 22 v0 rfl rfl)
  have k0 := h0
  have lt0 : ∀ x ∈ p0, x.block < W.heap.size := by obtain ⟨m, hm⟩ := k0; exact DataW.trod_lt m _ _ _ hm
  obtain ⟨t0, w0⟩ : ∃ ts, IsThings W a0 len0 cap0 ts := by
    obtain ⟨fuel, hf⟩ := h0
    exact things_of hf
  clear hA0 hval0
  refine (walk a0 len0 cap0 t0 W w0).mono fun e W' ⟨he, bel⟩ => ?_
  subst he
  exact ⟨_, rfl, _, _, _, [], _, [], hW', trodAll_mk1 (shut_bool Try.underlying4 _), (trodAll_cons_mk (Below.trod laidOut (by kernel_rfl) (of_decide_eq_true (by kernel_rfl)) k0 bel lt0) trodAll_mk0), rfl, bel.frame _, fun h => by cases h⟩

theorem over : Rows.codeBackRow.holds Try.pinned (OpenSpec.ofChange Rows.codeBackSpec) :=
  OpenClaim.holds_of_wide 3 Try.f3 rfl rfl rfl rfl rfl rfl rfl ⟨rfl, rfl, rfl, rfl, rfl⟩ rfl rfl rfl rfl rfl (by kernel_rfl) Try.func3 (by kernel_rfl)
    (of_decide_eq_true (by kernel_rfl)) (by unfold Func.isWrapper; first | (rw [if_pos (by decide +kernel)]; kernel_rfl) | (rw [if_neg (by decide +kernel)]; exact ⟨rfl, rfl⟩))
    (fun os started H enc _ => lifted os started H enc)

end Go.Proofs.Yticdikllfkfkfaa.codeBack

namespace Go.Proofs.Yticdikllfkfkfaa
/-- Proved: for every list of things, CodeBack answers true (what is written of the first 40, their texts cut to 200 bytes, is read again, thing by thing). -/
theorem codeBack_holds : Rows.CodeBackSaid := codeBack.over
#print axioms codeBack_holds
end Go.Proofs.Yticdikllfkfkfaa
