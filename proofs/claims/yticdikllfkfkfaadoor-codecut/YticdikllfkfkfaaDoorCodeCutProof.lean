/- Proved: for every list of things and every int, CodeCut answers true (bytes of numbers and texts that are cut off anywhere lack bytes), errors.errorType being laid as the program's text lays it (the card's tie, over the pruned copy).
  The frame is the guide's own shell (proof-skeleton.mjs) at this function; the walk and all ahead of it are mine. -/
import Derived.Test.YticdikllfkfkfaaDoorRows
import Derived.Test.YticdikllfkfkfaaDoorAid
import Derived.Test.YticdikllfkfkfaaDoorCodeMath
import Derived.Test.YticdikllfkfkfaaDoorOwnSrc
import Derived.Test.YticdikllfkfkfaaDoorCodeW
import Derived.Test.YticdikllfkfkfaaDoorCodeR
import Derived.Test.YticdikllfkfkfaaDoorCodeR2
import Derived.Test.YticdikllfkfkfaaDoorCodeIs
import Derived.Test.YticdikllfkfkfaaDoorCodeAwake
import Derived.Test.YticdikllfkfkfaaDoorCodeKeep
import Derived.Test.YticdikllfkfkfaaDoorCut
import Derived.Test.YticdikllfkfkfaaDoorCodeOf
import Derived.Test.YticdikllfkfkfaaDoorCodeOf2
import Derived.Test.YticdikllfkfkfaaDoorCodeOf3
import Derived.Test.YticdikllfkfkfaaDoorCodeRT
import Derived.Test.YticdikllfkfkfaaDoorThings
import Derived.Test.YticdikllfkfkfaaDoorCodePut
import Derived.Test.YticdikllfkfkfaaDoorThingsFrame
import Derived.Test.YticdikllfkfkfaaDoorThingsUse
import Derived.Test.YticdikllfkfkfaaDoorOwnSrc4
import Derived.Test.YticdikllfkfkfaaDoorCodeCutAid
import Derived.Test.YticdikllfkfkfaaDoorCodeCutGath
import Derived.WalkKit
import Derived.WalkLawsBesides
import Derived.ProofKit
import Derived.OpenShut
import Derived.ChangeSame
import Derived.ChangeVars
import Derived.JoinedOf
import Derived.RowKit
import Derived.RowKitTokens
import Derived.LaidLaws
import Derived.LaidHandle
import Derived.Stop.Joined
import Derived.SevenTiedAt
import Derived.Test.YticdikllfkfkfaaDoorTie
import Derived.Test.YticdikllfkfkfaaDoorCards
import Derived.ShutString
import Derived.ChangeOld
import Derived.Below
namespace Go.Proofs.YticdikllfkfkfaaDoor.codeCut
open Go.ChangeShapes Go.WideShapes Go.ChangeAt Go.RowKit
open Go.ChangeMaps (open_string shut_string)
set_option linter.unusedVariables false

theorem own : ownKnob Tryd.prog.godebug = none := by kernel_rfl
theorem laidOut : laidOutB Tryd.prog = true := by kernel_rfl


theorem et : Tryd.prog.globalNamed "errors.errorType" = some 0 := by kernel_rfl
theorem rt : (Tryd.prog.cutTypes.find? (·.1 == "internal/reflectlite.rtype")).map (·.2) = some 87 := by kernel_rfl
theorem oneRow : ((List.range 129).filter fun t => Tryd.prog.rowNamed t [101, 114, 114, 111, 114]) = [48] := by kernel_rfl
theorem typesSize : Tryd.prog.types.size = 129 := by kernel_rfl
/-- What the tied variable gives a walk: its one cell. -/
theorem handle_of_laid {W : World} (h : laidMetH Tryd.prog Rows.codeCutRow.laid W) : ErrType W := by
  have h' : laidMet Tryd.prog [] W ∧ handlesMet Tryd.prog Rows.codeCutRow.laid W := h
  obtain ⟨name, u, ty, e1, e2, e3, e4, e5⟩ := h'.2 _ (List.mem_singleton.2 rfl)
  have en : name = [101, 114, 114, 111, 114] := (Option.some.inj e1).symm
  subst en
  obtain rfl := Option.some.inj (rt.symm.trans e2)
  have hm : ty ∈ (List.range 129).filter fun t => Tryd.prog.rowNamed t [101, 114, 114, 111, 114] := List.mem_filter.2 ⟨List.mem_range.2 (by rw [← typesSize]; exact e3), e4⟩
  rw [oneRow] at hm
  obtain rfl := List.mem_singleton.1 hm
  have hh : typeHandle Tryd.prog 48 = .pointer (some ⟨1, 48, none⟩) := by kernel_rfl
  rw [hh] at e5
  unfold ErrType
  simpa using World.var?_cell et e5 0

/-! ### STEP 1: the walk -/
set_option maxRecDepth 100000 in
set_option maxHeartbeats 2000000 in
theorem walk (a0 : Option Addr) (len0 cap0 : Nat) (t0 : List Th) (a1 : Int) (w : World) (hE : ErrType w) (w0 : IsThings w a0 len0 cap0 t0) (w1 : (Lit.int .i64 a1).wf = true) :
    Calls Tryd.prog 4 #[.slice a0 len0 cap0, .int .i64 a1] w fun e w' => e = .returned (.bool true) ∧ Below w.heap.size w w' := by
  have hok := fewOf_ok (m := 20) w0.oks
  have hlen := fewOf_len t0 20
  obtain ⟨us, hus⟩ : ∃ us, us = fewOf t0 20 := ⟨_, rfl⟩
  rw [← hus] at hok hlen
  have hbl : ∀ k, (bytesOf (picked (us.take k))).length ≤ 8400 := fun k => by
    have h1 := bytesOf_len (picked (us.take k)) (fun u hu => by
      have hm := List.mem_of_mem_take (pick_sub u hu).1
      exact Th.bytes_len u (hok u hm).1 (hok u hm).2)
    have h2 := pick_len (us.take k)
    have h3 : (us.take k).length ≤ us.length := by simp; omega
    omega
  have hlt0 := hE.lt
  have b0 : Below w.heap.size w ((w.alloc (.cells #[.slice none 0 0] 54)).alloc (.cells #[] 33)) := ((Below.refl _ _).alloc (Nat.le_refl _) _).alloc (by simp) _
  have hW0 := (wr_new w.heap.size w (Nat.le_refl _)).alloc (.cells #[] 33)
  have hT0 := w0.below b0
  have hX0 : ((w.alloc (.cells #[.slice none 0 0] 54)).alloc (.cells #[] 33)).ownsRow w.heap.size 33 4 (.slice (some ⟨w.heap.size + 1, 0, none⟩) 0 0) 0 [] :=
    ⟨rfl, .inr ⟨w.heap.size + 1, 0, #[], rfl, by omega, by have := heap_alloc_new (w.alloc (.cells #[.slice none 0 0] 54)) (.cells #[] 33); simpa using this, Nat.le_refl _, Nat.zero_le _, rfl, rfl⟩⟩
  go_enter Tryd.func4, Tryd.ntmps4
  go_wp2_with fail
  refine (few_of a0 len0 cap0 20 t0 _ hT0 (by omega)).mono ?_
  rw [← hus]
  rintro e w1 ⟨v, rfl, hown, hb1⟩
  have hW1 := hW0.below hb1
  have b1 := b0.trans (hb1.mono (by simp; omega))
  have hX1 : w1.ownsRow w.heap.size 33 4 (.slice (some ⟨w.heap.size + 1, 0, none⟩) 0 0) 0 [] := by
    refine ⟨rfl, .inr ⟨w.heap.size + 1, 0, #[], rfl, by omega, ?_, Nat.le_refl _, Nat.zero_le _, rfl, rfl⟩⟩
    rw [hb1.block (w.heap.size + 1) (by simp)]
    have := heap_alloc_new (w.alloc (.cells #[.slice none 0 0] 54)) (.cells #[] 33)
    simpa using this
  have hrow := row_of hown
  have s1 := hW1.lt
  have HU : Hid (us = fewOf t0 20) := hus
  clear hus hown hb1 hW0 b0 hT0 hX0
  rcases hrow with ⟨a, c, hv, hu0⟩ | ⟨g, c, hv, hg, hpos, hrow⟩
  · rw [hv]
    clear hv
    go_wp2
    refine wp_loop_rounds 1 ?_
    rw [rounds_succ]
    go_wp2_with fail
    refine (bytes_any w.heap.size w.heap.size _ _ w1 hW1).mono ?_
    rintro e w' ⟨rfl, hw'⟩
    rw [hw']
    clear hw' w'
    rcases (show (a1 < 0) ∨ (0 ≤ a1) by omega) with c1 | c1
    · go_wp2_with fail
      refine (cawake_any w1).mono ?_
      rintro e w2 ⟨rfl, hb2⟩
      go_wp2
      go_ret
      exact ⟨rfl, b1.trans (hb2.mono (by omega))⟩
    · go_wp2_with fail
      refine (cawake_any w1).mono ?_
      rintro e w2 ⟨rfl, hb2⟩
      go_wp2
      go_ret
      exact ⟨rfl, b1.trans (hb2.mono (by omega))⟩
  · rw [hv]
    clear hv
    go_wp2
    have hgw : w.heap.size + 1 < g := by simp at hg; omega
    obtain ⟨i0, hi, hz0, hz1, hz2⟩ := info_parts Tryd.infoTh
    go_loopw [6, 17] (fun x y wr => ∃ (k : Nat) (u : Value), k ≤ us.length ∧ y = .int .i64 k ∧ Gath w.heap.size w wr g k us u x)
      (fun _ y _ => us.length - (intOf y).toNat)
    case atStart => exact ⟨0, .slice none 0 0, Nat.zero_le _, rfl, ⟨hW1, hX1, hrow, by simp [Value.ownBlock], by simp [Value.ownBlock]; omega, by simp [Value.ownBlock], b1⟩⟩
    case round =>
      obtain ⟨k, u, hk, rfl, G⟩ := hrel
      have hsz : w.heap.size < wr.heap.size := G.wri.lt
      by_cases hlt : k < us.length
      · obtain ⟨t, ht⟩ : ∃ t, t = us.getD k th0 := ⟨_, rfl⟩
        have hmem : us.getD k th0 ∈ us := by rw [List.getD_eq_getElem?_getD, List.getElem?_eq_getElem hlt]; simp
        have htok := hok _ hmem
        have g0 := G.src.c0 k hlt
        have g1 := G.src.c1 k hlt
        have g2 := G.src.c2 k hlt
        have g3 := G.src.c3 k hlt
        have HP : Hid (picked (us.take (k + 1)) = picked (us.take k) ++ (if t.kind == 1 || t.kind == 3 then [t] else [])) := (by rw [ht]; exact picked_snoc us k hlt : picked (us.take (k + 1)) = picked (us.take k) ++ (if t.kind == 1 || t.kind == 3 then [t] else []))
        rw [← ht] at htok g0 g1 g2 g3
        clear ht hmem
        rcases (show (t.kind = 1) ∨ (t.kind ≠ 1 ∧ t.kind = 3) ∨ (t.kind ≠ 1 ∧ t.kind ≠ 3) by omega) with k1 | ⟨k1, k3⟩ | ⟨k1, k3⟩
        · have HP1 : Hid (picked (us.take (k + 1)) = picked (us.take k) ++ [t]) := (by rw [HP.out, beq_iff_eq.2 k1]; simp : picked (us.take (k + 1)) = picked (us.take k) ++ [t])
          have kb1 : (t.kind == 1) = true := beq_iff_eq.2 k1
          clear k1
          go_wp2_with (at_builtin; refine wpList_own_append4 _ rfl _ _ 22 22 rfl w.heap.size 33 i0 (.agg #[.int .i64 0, .int .i64 0, .int .u64 0, .string ByteArray.empty]) 40 Tryd.underlying22 hi hz0 hz1 hz2 rfl _ _ _ rfl ((G.row.alloc _).alloc _) _ 1 t.cells rfl ?c0a ?c3a ?c4a ?c5a ?_)
          case c0a => exact src_four _ t _ (by simp)
          case c3a => have := pick_take us k; unfold maxLen; omega
          case c4a => have := pick_take us k; omega
          case c5a => simp; omega
          intro x' w2 ha
          obtain ⟨hW1, hR1, htb, hb1, hsz2⟩ := G.app ha
          obtain ⟨q0, q1, q2, q3⟩ := th_block htb
          have hbk := hbl k
          clear htb
          go_wp2_with fail
          refine (put_any w.heap.size w.heap.size u _ t _ hW1 (by omega) htok.1 htok.2 (by omega)).mono ?_
          rintro e w3 ⟨rfl, u2, hW3, hK3⟩
          have G' := G.put (by omega) ha HP1.out hW3 hK3
          clear hK3 hW3 ha q0 q1 q2 q3 g0 g1 g2 g3 hW1 hR1 G
          go_wp2
          go_roundw
          case rel => exact ⟨k + 1, u2, hlt, by go_num, G'⟩
          case measure => simp [intOf]; omega
        · have HP1 : Hid (picked (us.take (k + 1)) = picked (us.take k) ++ [t]) := (by rw [HP.out, beq_iff_eq.2 k3]; simp : picked (us.take (k + 1)) = picked (us.take k) ++ [t])
          have kb1 : (t.kind == 1) = false := beq_eq_false_iff_ne.2 k1
          have kb3 : (t.kind == 3) = true := beq_iff_eq.2 k3
          clear k1 k3
          go_wp2_with (at_builtin; refine wpList_own_append4 _ rfl _ _ 22 22 rfl w.heap.size 33 i0 (.agg #[.int .i64 0, .int .i64 0, .int .u64 0, .string ByteArray.empty]) 40 Tryd.underlying22 hi hz0 hz1 hz2 rfl _ _ _ rfl ((G.row.alloc _).alloc _) _ 1 t.cells rfl ?c0b ?c3b ?c4b ?c5b ?_)
          case c0b => exact src_four _ t _ (by simp)
          case c3b => have := pick_take us k; unfold maxLen; omega
          case c4b => have := pick_take us k; omega
          case c5b => simp; omega
          intro x' w2 ha
          obtain ⟨hW1, hR1, htb, hb1, hsz2⟩ := G.app ha
          obtain ⟨q0, q1, q2, q3⟩ := th_block htb
          have hbk := hbl k
          clear htb
          go_wp2_with fail
          refine (put_any w.heap.size w.heap.size u _ t _ hW1 (by omega) htok.1 htok.2 (by omega)).mono ?_
          rintro e w3 ⟨rfl, u2, hW3, hK3⟩
          have G' := G.put (by omega) ha HP1.out hW3 hK3
          clear hK3 hW3 ha q0 q1 q2 q3 g0 g1 g2 g3 hW1 hR1 G
          go_wp2
          go_roundw
          case rel => exact ⟨k + 1, u2, hlt, by go_num, G'⟩
          case measure => simp [intOf]; omega
        · have HP1 : Hid (picked (us.take (k + 1)) = picked (us.take k)) := (by rw [HP.out, beq_eq_false_iff_ne.2 k1, beq_eq_false_iff_ne.2 k3]; simp : picked (us.take (k + 1)) = picked (us.take k))
          have kb1 : (t.kind == 1) = false := beq_eq_false_iff_ne.2 k1
          have kb3 : (t.kind == 3) = false := beq_eq_false_iff_ne.2 k3
          clear k1 k3
          have G' := G.skip (o1 := .cells #[.int .i64 t.kind, .int .i64 t.n, .int .u64 t.u, .string t.s] 33) HP1.out
          clear G
          go_wp2
          go_roundw
          case rel => exact ⟨k + 1, u, hlt, by go_num, G'⟩
          case measure => simp [intOf]; omega
      · have hpe : us.take k = us := List.take_of_length_le (by omega)
        have hWr := G.wri
        have hXr := G.row
        have bR := G.bel
        have hxu := G.xu
        rw [hpe] at hWr hXr
        have hB84 := hbl us.length
        rw [List.take_length] at hB84
        obtain ⟨vs, hvs⟩ : ∃ vs, vs = picked us := ⟨_, rfl⟩
        have hvok : ∀ t ∈ vs, (t.ok ∧ t.s.size ≤ 200) ∧ (t.kind = 1 ∨ t.kind = 3) := fun t ht => by
          rw [hvs] at ht
          have := pick_sub t ht
          exact ⟨hok t this.1, this.2⟩
        have hvl : vs.length ≤ 20 := by have := pick_len us; rw [hvs]; omega
        rw [← hvs] at hWr hXr hB84
        clear hvs hpe G hrow hW1 hX1 b1 hok hbl
        go_wp2_with fail
        refine (bytes_any w.heap.size w.heap.size u _ wr hWr).mono ?_
        rintro e w' ⟨rfl, hw'⟩
        rw [hw']
        clear hw' w'
        rcases (show (a1 < 0) ∨ (0 ≤ a1 ∧ ((bytesOf vs).length : Int) ≤ a1) ∨ (0 ≤ a1 ∧ a1 < ((bytesOf vs).length : Int)) by omega) with c1 | ⟨c1, c2⟩ | ⟨c1, c2⟩
        · go_wp2_with fail
          refine (cawake_any wr).mono ?_
          rintro e w2 ⟨rfl, hb2⟩
          go_wp2
          go_ret
          exact ⟨rfl, bR.trans (hb2.mono (by omega))⟩
        · go_wp2_with fail
          refine (cawake_any wr).mono ?_
          rintro e w2 ⟨rfl, hb2⟩
          go_wp2
          go_ret
          exact ⟨rfl, bR.trans (hb2.mono (by omega))⟩
        · obtain ⟨cn, rfl⟩ := Int.eq_ofNat_of_zero_le c1
          have hcn : cn < (bytesOf vs).length := by omega
          obtain ⟨S, hS⟩ : ∃ S, S = (ByteArray.mk (bytesOf vs).toArray).extract 0 cn := ⟨_, rfl⟩
          have hSl : S.data.toList = (bytesOf vs).take cn := by rw [hS, ByteArray.data_extract]; simp
          have hSs : S.size = cn := by
            have h := congrArg List.length hSl
            rw [List.length_take, Nat.min_eq_left (Nat.le_of_lt hcn)] at h
            simpa using h
          have HS : Hid (S = (ByteArray.mk (bytesOf vs).toArray).extract 0 cn) := hS
          clear hS
          go_wp2_with fail
          rw [← HS.out]
          refine (open_any _ _).mono ?_
          rintro e w2 ⟨rfl, hw2⟩
          have hR2 : Rd w2 wr.heap.size S 0 0 := by rw [hw2]; exact rd_new _ _
          have hX2 : w2.ownsRow w.heap.size 33 4 u6 vs.length (vs.flatMap Th.cells) := by rw [hw2]; exact hXr.alloc _
          have b2 : Below w.heap.size w w2 := by rw [hw2]; exact bR.alloc (Nat.le_of_lt hsz) _
          have hxs : ∀ j, Value.ownBlock u6 = some j → j < wr.heap.size := fun j hj => (hXr.lt j hj).2
          clear hw2 hXr bR hWr
          rcases row_of hX2 with ⟨a, c, hv, hu0⟩ | ⟨g2, c2', hv, hg2, hpos2, hrow2⟩
          · exfalso
            rw [hu0] at hcn
            simp [bytesOf] at hcn
          · have hg2l : g2 < wr.heap.size := hxs g2 (by rw [hv]; rfl)
            rw [hv]
            clear hxs hX2 hv hxu
            have HL : Hid (S.data.toList = (bytesOf vs).take cn) := hSl
            have HZ : Hid (S.size = cn) := hSs
            clear hSl hSs
            generalize hqd : wr.heap.size = q at *
            have HQ : Hid (wr.heap.size = q) := hqd
            clear hqd
            go_wp2
            go_loopw [52] (fun y wq => ∃ j : Nat, j ≤ vs.length ∧ y = .int .i64 j ∧ CutAt wq q S cn (bytesOf (vs.take j)).length ∧ ThRow wq g2 vs ∧ Below w.heap.size w wq ∧ q < wq.heap.size)
              (fun y _ => vs.length - (intOf y).toNat)
            case atStart => exact ⟨0, Nat.zero_le _, rfl, .inl ⟨hR2, Nat.zero_le _⟩, hrow2, b2, hR2.lt⟩
            case round =>
              obtain ⟨j, hj, rfl, hC, hT, bq, hq⟩ := hrel
              by_cases hjl : j < vs.length
              · obtain ⟨t, ht⟩ : ∃ t, t = vs.getD j th0 := ⟨_, rfl⟩
                have hmem : vs.getD j th0 ∈ vs := by rw [List.getD_eq_getElem?_getD, List.getElem?_eq_getElem hjl]; simp
                have htok := hvok _ hmem
                have g0 := hT.c0 j hjl
                have g1 := hT.c1 j hjl
                have g2' := hT.c2 j hjl
                have g3 := hT.c3 j hjl
                have HD : Hid ((bytesOf vs).drop (bytesOf (vs.take j)).length = t.bytes ++ bytesOf (vs.drop (j + 1))) := (by rw [ht]; exact bytesOf_drop vs j hjl : (bytesOf vs).drop (bytesOf (vs.take j)).length = t.bytes ++ bytesOf (vs.drop (j + 1)))
                have HN : Hid ((bytesOf (vs.take (j + 1))).length = (bytesOf (vs.take j)).length + t.bytes.length) := (by rw [ht, bytesOf_snoc vs j hjl, List.length_append] : (bytesOf (vs.take (j + 1))).length = (bytesOf (vs.take j)).length + t.bytes.length)
                rw [← ht] at htok g0 g1 g2' g3
                clear ht hmem
                have hC' : CutAt (wr.alloc (.cells #[.int .i64 t.kind, .int .i64 t.n, .int .u64 t.u, .string t.s] 33)) q S cn (bytesOf (vs.take j)).length := by
                  rcases hC with ⟨h1, h2⟩ | ⟨a, h1⟩
                  · exact .inl ⟨h1.alloc _, h2⟩
                  · exact .inr ⟨a, h1.alloc _⟩
                have hT' := hT.alloc (.cells #[.int .i64 t.kind, .int .i64 t.n, .int .u64 t.u, .string t.s] 33)
                have bq' := bq.alloc (by omega) (.cells #[.int .i64 t.kind, .int .i64 t.n, .int .u64 t.u, .string t.s] 33)
                by_cases kk : t.kind = 1
                · have kb1 : (t.kind == 1) = true := beq_iff_eq.2 kk
                  have HK : Hid (t.kind = 1) := kk
                  clear kk
                  go_wp2_with fail
                  refine (cut_number q cn _ S (bytesOf vs) _ t _ hC' HL.out HZ.out (by omega) HD.out HK.out htok.1.1).mono ?_
                  rintro e w3 ⟨⟨x, rfl⟩, hC3, hS3⟩
                  have hT3 := hT'.adds hS3.adds (by omega)
                  have b3 := hS3.adds.below (B := w.heap.size) (by omega) (by simp; omega) bq'
                  have s3 : q < w3.heap.size := by rw [hS3.size]; simp; omega
                  rw [← HN.out] at hC3
                  clear hC hC' hT hT' bq bq' hS3 g0 g1 g2' g3
                  go_wp2
                  go_roundw
                  case rel => exact ⟨j + 1, hjl, by go_num, hC3, hT3, b3, s3⟩
                  case measure => simp [intOf]; omega
                · have kb1 : (t.kind == 1) = false := beq_eq_false_iff_ne.2 kk
                  have HK : Hid (t.kind = 3) := (by rcases htok.2 with h | h; exact absurd h kk; exact h : t.kind = 3)
                  clear kk
                  go_wp2_with fail
                  refine (cut_text q cn _ S (bytesOf vs) _ t _ hC' HL.out HZ.out (by omega) HD.out HK.out htok.1.1 htok.1.2).mono ?_
                  rintro e w3 ⟨⟨x, rfl⟩, hC3, hS3⟩
                  have hT3 := hT'.adds hS3.adds (by omega)
                  have b3 := hS3.adds.below (B := w.heap.size) (by omega) (by simp; omega) bq'
                  have s3 : q < w3.heap.size := by rw [hS3.size]; simp; omega
                  rw [← HN.out] at hC3
                  clear hC hC' hT hT' bq bq' hS3 g0 g1 g2' g3
                  go_wp2
                  go_roundw
                  case rel => exact ⟨j + 1, hjl, by go_num, hC3, hT3, b3, s3⟩
                  case measure => simp [intOf]; omega
              · have hRf : ∃ a, Rd wr q S a 10 := by
                  rcases hC with ⟨h1, h2⟩ | h1
                  · exfalso
                    rw [List.take_of_length_le (by omega)] at h2
                    omega
                  · exact h1
                obtain ⟨aa, hRf⟩ := hRf
                clear hC hT
                go_wp2_with fail
                refine (cawake_any _).mono ?_
                rintro e w3 ⟨rfl, hb3⟩
                have hR3 := hRf.below hb3
                have b3 := bq.trans (hb3.mono (by omega))
                have s3 := hR3.lt
                clear hRf hb3 bq
                go_wp2_with fail
                refine (done_stuck q S aa 10 _ hR3 (by omega)).mono ?_
                rintro e w4 ⟨gf, rfl, hF, hgf, hR4, hA4⟩
                have b4 := hA4.below (B := w.heap.size) (by omega) (by omega) b3
                have hE4 := hE.below hlt0 b4
                have s4 := hR4.lt
                clear hA4 b3 hR3
                go_wp2_with fail
                refine (of_fault gf 10 _ hE4 hF).mono ?_
                rintro e w5 ⟨rfl, hb5⟩
                go_wp2
                go_ret
                exact ⟨rfl, b4.trans (hb5.mono (by omega))⟩

/-! ### The row's step -/
set_option maxRecDepth 100000 in
theorem lifted (os : Os) (started : os.Started) (H : Type) (enc : TypeId × Value → H) :
    ReturnsInHanded {} Tryd.checked os 4 .any (fun w args => (Rows.codeCutSpec.pre enc Tryd.prog Tryd.f4 [] false w args ∧ laidMetH Tryd.prog Rows.codeCutRow.laid w) ∧ sizedMet enc Tryd.prog Tryd.f4 (OpenSpec.ofChange Rows.codeCutSpec) false w args) (Rows.codeCutSpec.post enc Tryd.prog Tryd.f4 false true false false) := by
  refine returnsInHanded_of_change_and (C := Tryd.checked) (X := fun w _ => laidMetH Tryd.prog Rows.codeCutRow.laid w) (fun _ _ _ hh h => h.of_heap hh) own started (by kernel_rfl) Tryd.func4
    (ChangeSpec.witness_at (enc := enc) (C := Tryd.checked) (os := os) (X := fun w _ => laidMetH Tryd.prog Rows.codeCutRow.laid w) false ({ World.holding Tryd.prog os ⟨#[], #[], []⟩ with heap := (World.holding Tryd.prog os ⟨#[], #[], []⟩).heap.modify 0 fun | .cells _ t frozen => .cells #[.iface 87 (.agg #[.pointer (some ⟨1, 48, none⟩)])] t frozen | o => o }) #[.slice none 0 0, .int .i64 0] 8 rfl (by kernel_rfl) (by kernel_rfl) (by kernel_rfl) (by kernel_rfl) (by kernel_rfl) (laidMetH_of_parts (laidMet_nil _ _) (by kernel_rfl))) ?_
  intro W base args ds gs before hval0 hW _ _ hL _
  have hval : ∀ (j : Nat) t v, Tryd.f4.params[j]? = some t → args[j]? = some v → Value.okWide Tryd.prog W .any base t v := hval0
  have hW' := hW
  obtain ⟨p, q, hA0, hV, rfl, hfz, hnd⟩ := hW
  have hA : DataW.TrodAll enc Tryd.prog W 0 (fun _ => true) true Tryd.f4.params.toList args.toList ds p := hA0
  rw [Tryd.params4] at hA hval
  obtain ⟨v0, vs0, d0, ds0, p0, q0, hargs, rfl, rfl, h0, r0⟩ := trodAll_cons hA
  obtain ⟨v1, vs1, d1, ds1, p1, q1, rfl, rfl, rfl, h1, r1⟩ := trodAll_cons r0
  obtain ⟨rfl, rfl, rfl⟩ := trodAll_nil r1
  obtain rfl : args = #[v0, v1] := by cases args; simp_all
  obtain ⟨rfl, rfl⟩ := trodVars_none hV
  obtain ⟨a0, len0, cap0, rfl⟩ := okWide_slice Tryd.underlying22 (hval 0 22 v0 rfl rfl)
  have k0 := h0
  have lt0 : ∀ x ∈ p0, x.block < W.heap.size := by obtain ⟨m, hm⟩ := k0; exact DataW.trod_lt m _ _ _ hm
  obtain ⟨t0, w0⟩ : ∃ ts, IsThings W a0 len0 cap0 ts := by
    obtain ⟨fuel, hf⟩ := h0
    exact things_of hf
  obtain ⟨a1, rfl, rfl, rfl, w1⟩ := open_int Tryd.underlying3 (hval 1 3 v1 rfl rfl) h1
  clear hA0 hval0
  have hE := handle_of_laid hL
  refine (walk a0 len0 cap0 t0 a1 W hE w0 w1).mono fun e W' ⟨he, bel⟩ => ?_
  subst he
  exact ⟨_, rfl, _, _, _, [], _, [], hW', trodAll_mk1 (shut_bool Tryd.underlying4 _), (trodAll_cons_mk (Below.trod laidOut (by kernel_rfl) (of_decide_eq_true (by kernel_rfl)) k0 bel lt0) (trodAll_cons_mk (shut_int Tryd.underlying3 w1) trodAll_mk0)), rfl, bel.frame _, fun h => by cases h⟩

theorem over : Rows.codeCutRow.holds Tryd.pinned (OpenSpec.ofChange Rows.codeCutSpec) :=
  OpenClaim.holds_of_wide 4 Tryd.f4 rfl rfl rfl rfl rfl rfl rfl ⟨rfl, rfl, rfl, rfl, rfl⟩ rfl rfl rfl rfl rfl (by kernel_rfl) Tryd.func4 (by kernel_rfl)
    (of_decide_eq_true (by kernel_rfl)) (by unfold Func.isWrapper; first | (rw [if_pos (by decide +kernel)]; kernel_rfl) | (rw [if_neg (by decide +kernel)]; exact ⟨rfl, rfl⟩))
    (fun os started H enc _ => lifted os started H enc)

theorem card : Rows.CodeCutCardSaid :=
  Claim7.holds_tied_plain_at .later [] [.handle] true (true, "6aacf6edaab462a4eb4776fd7baaeed8d584f891605cc816118d6e827fdbf6ea") true
    over (fun _ h => by cases h) (by kernel_rfl) (fun _ h => by cases h) codeCut_row_tie rfl ⟨rfl, rfl⟩ (by kernel_rfl) rfl
    (fun f fn hf hfn => by
      obtain rfl : f = 4 := Option.some.inj ((show Tryd.prog.funcNamed "wigwag/wigwaglaw02.CodeCut" = some 4 by kernel_rfl).symm.trans hf) |>.symm
      obtain rfl : fn = Tryd.f4 := (Option.some.inj (Tryd.func4.symm.trans hfn)).symm
      exact ⟨by kernel_rfl, fun j t ht => by
        rw [Tryd.params4] at ht
        have hall : ∀ t ∈ ([22, 3] : List TypeId), Tryd.prog.wantsStandIn t = false := by
          intro t ht
          simp only [List.mem_cons, List.not_mem_nil, or_false] at ht
          rcases ht with rfl | rfl <;> kernel_rfl
        exact hall t (by simpa using List.mem_of_getElem? (l := ([22, 3] : List TypeId)) (i := j) (by simpa using ht))⟩)
    (by kernel_rfl)

end Go.Proofs.YticdikllfkfkfaaDoor.codeCut

namespace Go.Proofs.YticdikllfkfkfaaDoor
/-- Proved: for every list of things and every int, CodeCut answers true (bytes of numbers and texts that are cut off anywhere lack bytes), errors.errorType being laid as the program's text lays it (the card's tie, over the pruned copy). -/
theorem codeCut_holds : Rows.CodeCutCardSaid := codeCut.card
#print axioms codeCut_holds
end Go.Proofs.YticdikllfkfkfaaDoor
