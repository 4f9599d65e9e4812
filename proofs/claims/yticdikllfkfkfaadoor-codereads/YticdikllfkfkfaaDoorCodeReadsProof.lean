/- Proved: for every text and every list of things, CodeReads answers true (any bytes of at most 1000 are read as any 40 things as the document's own reader reads them: the same answer, the same place, the same code, and the same at the end), errors.errorType being laid as the program's text lays it (the card's tie, over the pruned copy).
  The frame is the guide's own shell (proof-skeleton.mjs) at this function; the walk and all ahead of it are mine. -/
import Derived.Test.YticdikllfkfkfaaDoorRows
import Derived.Test.YticdikllfkfkfaaDoorAid
import Derived.Test.YticdikllfkfkfaaDoorCodeMath
import Derived.Test.YticdikllfkfkfaaDoorOwnSrc
import Derived.Test.YticdikllfkfkfaaDoorCodeW
import Derived.Test.YticdikllfkfkfaaDoorCodeR
import Derived.Test.YticdikllfkfkfaaDoorCodeR2
import Derived.Test.YticdikllfkfkfaaDoorCodeIs
import Derived.Test.YticdikllfkfkfaaDoorCodeAwake
import Derived.Test.YticdikllfkfkfaaDoorCodeKeep
import Derived.Test.YticdikllfkfkfaaDoorCut
import Derived.Test.YticdikllfkfkfaaDoorCodeOf
import Derived.Test.YticdikllfkfkfaaDoorCodeOf2
import Derived.Test.YticdikllfkfkfaaDoorCodeOf3
import Derived.Test.YticdikllfkfkfaaDoorCodeRT
import Derived.Test.YticdikllfkfkfaaDoorThings
import Derived.Test.YticdikllfkfkfaaDoorCodePut
import Derived.Test.YticdikllfkfkfaaDoorThingsFrame
import Derived.Test.YticdikllfkfkfaaDoorThingsUse
import Derived.Test.YticdikllfkfkfaaDoorCodeRI
import Derived.Test.YticdikllfkfkfaaDoorCodeCutAid
import Derived.Test.YticdikllfkfkfaaDoorCodeBelow
import Derived.Test.YticdikllfkfkfaaDoorCodeBoth
import Derived.Test.YticdikllfkfkfaaDoorCodeSt
import Derived.WalkKit
import Derived.WalkLawsBesides
import Derived.ProofKit
import Derived.OpenShut
import Derived.ChangeSame
import Derived.ChangeVars
import Derived.JoinedOf
import Derived.RowKit
import Derived.RowKitTokens
import Derived.LaidLaws
import Derived.LaidHandle
import Derived.Stop.Joined
import Derived.SevenTiedAt
import Derived.Test.YticdikllfkfkfaaDoorTie
import Derived.Test.YticdikllfkfkfaaDoorCards
import Derived.ShutString
import Derived.ChangeOld
import Derived.Below
namespace Go.Proofs.YticdikllfkfkfaaDoor.codeReads
open Go.ChangeShapes Go.WideShapes Go.ChangeAt Go.RowKit
open Go.ChangeMaps (open_string shut_string)
set_option linter.unusedVariables false

theorem own : ownKnob Tryd.prog.godebug = none := by kernel_rfl
theorem laidOut : laidOutB Tryd.prog = true := by kernel_rfl


theorem et : Tryd.prog.globalNamed "errors.errorType" = some 0 := by kernel_rfl
theorem rt : (Tryd.prog.cutTypes.find? (·.1 == "internal/reflectlite.rtype")).map (·.2) = some 87 := by kernel_rfl
theorem oneRow : ((List.range 129).filter fun t => Tryd.prog.rowNamed t [101, 114, 114, 111, 114]) = [48] := by kernel_rfl
theorem typesSize : Tryd.prog.types.size = 129 := by kernel_rfl
/-- What the tied variable gives a walk: its one cell. -/
theorem handle_of_laid {W : World} (h : laidMetH Tryd.prog Rows.codeReadsRow.laid W) : ErrType W := by
  have h' : laidMet Tryd.prog [] W ∧ handlesMet Tryd.prog Rows.codeReadsRow.laid W := h
  obtain ⟨name, u, ty, e1, e2, e3, e4, e5⟩ := h'.2 _ (List.mem_singleton.2 rfl)
  have en : name = [101, 114, 114, 111, 114] := (Option.some.inj e1).symm
  subst en
  obtain rfl := Option.some.inj (rt.symm.trans e2)
  have hm : ty ∈ (List.range 129).filter fun t => Tryd.prog.rowNamed t [101, 114, 114, 111, 114] := List.mem_filter.2 ⟨List.mem_range.2 (by rw [← typesSize]; exact e3), e4⟩
  rw [oneRow] at hm
  obtain rfl := List.mem_singleton.1 hm
  have hh : typeHandle Tryd.prog 48 = .pointer (some ⟨1, 48, none⟩) := by kernel_rfl
  rw [hh] at e5
  unfold ErrType
  simpa using World.var?_cell et e5 0

/-! ### STEP 1: the walk -/
set_option maxRecDepth 100000 in
set_option maxHeartbeats 20000000 in
theorem walk (a0 : ByteArray) (a1 : Option Addr) (len1 cap1 : Nat) (t1 : List Th) (w : World) (hE : ErrType w) (w0 : a0.size ≤ maxLen) (w1 : IsThings w a1 len1 cap1 t1) :
    Calls Tryd.prog 3 #[.string a0, .slice a1 len1 cap1] w fun e w' => e = .returned (.bool true) ∧ Below w.heap.size w w' := by
  have hc := cut_size a0 1000
  obtain ⟨s, hs⟩ : ∃ s, s = cut a0 1000 := ⟨_, rfl⟩
  have HC : Hid (s = cut a0 1000) := hs
  rw [← hs] at hc
  clear hs
  have hlen := fewOf_len t1 40
  have hok := fewOf_ok (m := 40) w1.oks
  obtain ⟨us, hus⟩ : ∃ us, us = fewOf t1 40 := ⟨_, rfl⟩
  rw [← hus] at hlen hok
  have HU : Hid (us = fewOf t1 40) := hus
  clear hus
  have hlt0 := hE.lt
  have HE : Hid (ErrType w ∧ IsThings w a1 len1 cap1 t1 ∧ ∀ u ∈ us, u.ok ∧ u.s.size ≤ 200) := ⟨hE, w1, hok⟩
  clear hE w1 hok
  go_enter Tryd.func3, Tryd.ntmps3
  go_wp2_with fail
  refine (cut_any a0 1000 _ w0).mono ?_
  rw [← HC.out]
  rintro e w' ⟨rfl, hw'⟩
  subst w'
  go_wp2_with fail
  refine (open_any _ _).mono ?_
  rintro e w2 ⟨rfl, hw2⟩
  have hR2 : Rd w2 w.heap.size s 0 0 := by rw [hw2]; exact rd_new _ _
  have b2 : Below w.heap.size w w2 := by rw [hw2]; exact (Below.refl _ _).alloc (Nat.le_refl _) _
  clear hw2
  go_wp2_with fail
  refine (copen_any _ _).mono ?_
  rintro e w3 ⟨rfl, hb3⟩
  have hR3 := hR2.below hb3
  have b3 := b2.trans (hb3.mono b2.size)
  clear hb3 hR2 b2
  go_wp2_with fail
  refine (cawake_any _).mono ?_
  rintro e w4 ⟨rfl, hb4⟩
  have hR4 := (hR3.alloc (.cells #[.string s, .int .i64 0, .int .i64 0] 27)).below hb4
  have hC4 : Cu w4 w3.heap.size s 0 0 := (cu_new w3 s 0 0).below hb4
  have b4 := (b3.alloc b3.size (.cells #[.string s, .int .i64 0, .int .i64 0] 27)).trans (hb4.mono (by simp; exact Nat.le_succ_of_le b3.size))
  have z3 := hR3.lt
  obtain ⟨qc, hqc⟩ : ∃ qc, qc = w3.heap.size := ⟨_, rfl⟩
  rw [← hqc] at hC4 z3 ⊢
  clear hqc hb4 hR3 b3
  have z4 := hC4.lt
  go_wp2_with fail
  refine (few_of a1 len1 cap1 40 t1 w4 (HE.out.2.1.below b4) (by omega)).mono ?_
  rw [← HU.out]
  rintro e w5 ⟨v, rfl, hown, hb5⟩
  have hR5 := hR4.below hb5
  have hC5 := hC4.below hb5
  have b5 := b4.trans (hb5.mono b4.size)
  have hrow := row_of hown
  have z5 := hb5.size
  clear hown hb5 hR4 hC4 b4
  obtain ⟨sa, sc, hv, hrow⟩ : ∃ sa sc, v = .slice sa us.length sc ∧ (us = [] ∨ ∃ g, sa = some ⟨g, 0, none⟩ ∧ w4.heap.size ≤ g ∧ 0 < us.length ∧ ThRow w5 g us) := by
    rcases hrow with ⟨a, ca, hv, hu0⟩ | ⟨g, ca, hv, hg, hpos, hrow⟩
    · exact ⟨a, ca, by rw [hv, hu0]; rfl, .inl hu0⟩
    · exact ⟨_, ca, hv, .inr ⟨g, rfl, hg, hpos, hrow⟩⟩
  rw [hv]
  clear hv
  go_upto_block 0 with fail
  go_cut [33] (fun y wx => ∃ a c g us', St w wx w.heap.size qc g s a c a c us')
  case first =>
    rcases hrow with hu0 | ⟨g, hsa, hg, hpos, hrow⟩
    · subst hu0
      have hS : St w w5 w.heap.size qc 0 s 0 0 0 0 [] := ⟨hR5, hC5, row_none (by omega), b5, Nat.le_refl _, by omega, by omega, by omega, by omega⟩
      clear hR5 hC5 b5
      go_wp2
      refine wp_loop_rounds 1 ?_
      rw [rounds_succ]
      go_wp2_with fail
      go_meet
      exact ⟨0, 0, 0, [], hS⟩
    · subst hsa
      have hS : St w w5 w.heap.size qc g s 0 0 0 0 us := ⟨hR5, hC5, hrow, b5, Nat.le_refl _, by omega, by omega, by omega, by omega⟩
      clear hR5 hC5 hrow b5
      go_wp2
      go_loopg [33] us.length (fun k y wr => ∃ j a c : Nat, j + k = us.length ∧ y = .int .i64 j ∧ a ≤ s.size ∧ St w wr w.heap.size qc g s a c a c us)
      case atStart => exact ⟨0, 0, 0, by omega, rfl, Nat.zero_le _, hS⟩
      case round =>
        obtain ⟨j, a, c, hj, rfl, ha, hS⟩ := hrel
        by_cases hjl : j < us.length
        · obtain ⟨t, ht⟩ : ∃ t, t = us.getD j th0 := ⟨_, rfl⟩
          have hn2 : t.n ≤ 9223372036854775807 := by
            have hm : us.getD j th0 ∈ us := by rw [List.getD_eq_getElem?_getD, List.getElem?_eq_getElem hjl]; exact List.getElem_mem hjl
            rw [ht]; exact (HE.out.2.2 _ hm).1.2.1.2
          have g0 := hS.row.c0 j hjl
          have g1 := hS.row.c1 j hjl
          have g2 := hS.row.c2 j hjl
          have g3 := hS.row.c3 j hjl
          rw [← ht] at g0 g1 g2 g3
          clear ht
          have gl := hS.row.lt
          have hT := hS.alloc (.cells #[.int .i64 t.kind, .int .i64 t.n, .int .u64 t.u, .string t.s] 33)
          obtain ⟨q0, q1, q2, q3⟩ := th_block (heap_alloc_new wr (.cells #[.int .i64 t.kind, .int .i64 t.n, .int .u64 t.u, .string t.s] 33))
          go_upto_block 2 with fail
          go_cut [9] (fun v wx => v = .bool true ∧ ∃ p d, p ≤ s.size ∧ St w wx w.heap.size qc g s p d p d us)
          case first =>
            have x0 := hT.cu.text
            have x1 := hT.cu.at
            have x2 := hT.cu.code
            have xl := hT.cu.lt
            by_cases k1 : (t.kind == 1) = true
            · obtain ⟨v, p, d, hB⟩ := both_num s a c ha (by omega)
              have HB : Hid (BothNum s a c v p d) := hB
              clear hB
              go_wp2_with (first
                | (go_at_call 12; refine (HB.out.2.2 _).mono ?_; rintro e w6 ⟨rfl, hb6⟩; have hS6 := hT.below hb6; have y0 := hS6.cu.text; have y1 := hS6.cu.at; have y2 := hS6.cu.code; have yf := hS6.cu.free; have yl := hS6.cu.lt)
                | (go_at_call 13; refine (HB.out.2.1 _ _ ?_).mono ?_; exact ((hS6.store p d).alloc _).rd; rintro e w7 ⟨rfl, hR7, hS7⟩))
              go_meet
              exact ⟨by simp, p, d, HB.out.1, ((hS6.store p d).alloc _).read hR7 hS7.adds⟩
            · have k1 : (t.kind == 1) = false := by simpa using k1
              by_cases k2 : (t.kind == 2) = true
              · obtain ⟨v, p, d, hB⟩ := both_int s a c ha (by omega)
                have HB : Hid (BothInt s a c v p d) := hB
                clear hB
                go_wp2_with (first
                  | (go_at_call 14; refine (HB.out.2.2 _).mono ?_; rintro e w6 ⟨rfl, hb6⟩; have hS6 := hT.below hb6; have y0 := hS6.cu.text; have y1 := hS6.cu.at; have y2 := hS6.cu.code; have yf := hS6.cu.free; have yl := hS6.cu.lt)
                  | (go_at_call 15; refine (HB.out.2.1 _ _ ?_).mono ?_; exact ((hS6.store p d).alloc _).rd; rintro e w7 ⟨rfl, hR7, hS7⟩))
                go_meet
                exact ⟨by simp, p, d, HB.out.1, ((hS6.store p d).alloc _).read hR7 hS7.adds⟩
              · have k2 : (t.kind == 2) = false := by simpa using k2
                by_cases k3 : (t.kind == 3) = true
                · obtain ⟨v, p, d, hB⟩ := both_text s a c t.n ha (by omega) hn2
                  have HB : Hid (BothText s a c t.n v p d) := hB
                  clear hB
                  go_wp2_with (first
                    | (go_at_call 16; refine (HB.out.2.2 _).mono ?_; rintro e w6 ⟨rfl, hb6⟩; have hS6 := hT.below hb6; have y0 := hS6.cu.text; have y1 := hS6.cu.at; have y2 := hS6.cu.code; have yf := hS6.cu.free; have yl := hS6.cu.lt; have yt := (th_block (heap_alloc_new wr (.cells #[.int .i64 t.kind, .int .i64 t.n, .int .u64 t.u, .string t.s] 33))).2.1; rw [← hb6.cell (p := ⟨wr.heap.size, 1, none⟩) (by simp)] at yt; have yw : wr.heap.size < w6.heap.size := by { have := hb6.size; simp at this; omega }; have yq : wr.heap.size ≠ qc := by { have := hS.cu.lt; omega }; have yq2 : qc ≠ wr.heap.size := by { have := hS.cu.lt; omega })
                    | (go_at_call 17; refine (HB.out.2.1 _ _ ?_).mono ?_; exact ((hS6.store p d).alloc _).rd; rintro e w7 ⟨rfl, hR7, hS7⟩))
                  go_meet
                  exact ⟨by simp, p, d, HB.out.1, ((hS6.store p d).alloc _).read hR7 hS7.adds⟩
                · have k3 : (t.kind == 3) = false := by simpa using k3
                  by_cases k4 : (t.kind == 4) = true
                  · obtain ⟨v, p, d, hB⟩ := both_below s a c t.n ha (by omega)
                    have HB : Hid (BothBelow s a c t.n v p d) := hB
                    clear hB
                    go_wp2_with (first
                      | (go_at_call 18; refine (HB.out.2.2 _).mono ?_; rintro e w6 ⟨rfl, hb6⟩; have hS6 := hT.below hb6; have y0 := hS6.cu.text; have y1 := hS6.cu.at; have y2 := hS6.cu.code; have yf := hS6.cu.free; have yl := hS6.cu.lt; have yt := (th_block (heap_alloc_new wr (.cells #[.int .i64 t.kind, .int .i64 t.n, .int .u64 t.u, .string t.s] 33))).2.1; rw [← hb6.cell (p := ⟨wr.heap.size, 1, none⟩) (by simp)] at yt; have yw : wr.heap.size < w6.heap.size := by { have := hb6.size; simp at this; omega }; have yq : wr.heap.size ≠ qc := by { have := hS.cu.lt; omega }; have yq2 : qc ≠ wr.heap.size := by { have := hS.cu.lt; omega })
                      | (go_at_call 19; refine (HB.out.2.1 _ _ ?_).mono ?_; exact ((hS6.store p d).alloc _).rd; rintro e w7 ⟨rfl, hR7, hS7⟩))
                    go_meet
                    exact ⟨by simp, p, d, HB.out.1, ((hS6.store p d).alloc _).read hR7 hS7.adds⟩
                  · have k4 : (t.kind == 4) = false := by simpa using k4
                    go_wp2_with fail
                    go_meet
                    exact ⟨rfl, a, c, ha, hT⟩
          case rest =>
            obtain ⟨rfl, p, d, hp, hS2⟩ := hcut
            clear hT hS g0 g1 g2 g3 q0 q1 q2 q3
            go_upto_region 26 with fail
            go_cut [111] (fun v wx => v = .bool false ∧ St w wx w.heap.size qc g s p d p d us)
            case first =>
              have z1 := hS2.cu.at
              have z2 := hS2.cu.code
              by_cases h0 : d = 0
              · subst h0
                go_quiet (first
                  | (go_at_call 20; refine Calls.quiet_of_same (at_any w.heap.size s p 0 _ (hS2.rd.drewN _)))
                  | (go_at_call 22; refine Calls.quiet_of_same (err_nil w.heap.size s p _ (hS2.rd.drewN _)))
                  | (go_at_call 21; refine Calls.quiet_of_same (of_nil _)))
                go_wp2_with fail
                go_meet
                exact ⟨by simp, hS2.drewN _⟩
              · go_region_with (first
                  | (go_at_call 20; refine (at_any w.heap.size s p d _ ?_).mono ?_; exact hS2.rd.drew; rintro e w' ⟨rfl, hw⟩; subst w')
                  | (go_at_call 22; refine (err_fault w.heap.size s p d _ ?_ h0).mono ?_; exact hS2.rd.drew; rintro e w8 ⟨g8, rfl, hF8, hg8, hR8, hA8⟩; have hS8 := hS2.drew.read hR8 hA8; have z8 := hS8.cu.code; have e8 := hS8.et HE.out.1)
                  | (go_at_call_of 21 g8; refine (of_fault g8 d w8 e8 hF8).mono ?_; rintro e w9 ⟨rfl, hb9⟩; have hS9 := hS8.below hb9; have z9 := hS9.cu.code))
                all_goals (try go_wp2_with fail)
                all_goals go_meet
                all_goals exact ⟨by simp, hS9⟩
            case rest =>
              obtain ⟨rfl, hS3⟩ := hcut
              go_wp2
              go_roundg (us.length - (j + 1))
              case measure => omega
              case rel => exact ⟨j + 1, p, d, by omega, by go_num, hp, hS3⟩
        · go_wp2_with fail
          go_meet
          exact ⟨a, c, g, us, hS⟩
  case rest =>
    obtain ⟨a, c, g, us', hS⟩ := hcut
    by_cases hfin : c ≠ 0 ∨ a < s.size
    · obtain ⟨d, hd, hr, hcur⟩ := both_done s a c hfin
      have HD : Hid ((∀ w q, Rd w q s a c → Calls Tryd.prog 24 #[.pointer (some ⟨q, 0, none⟩)] w
            fun e w' => ∃ g, e = .returned (.iface 68 (.pointer (some ⟨g, 0, none⟩))) ∧ IsFault w' (.iface 68 (.pointer (some ⟨g, 0, none⟩))) d ∧ w.heap.size ≤ g ∧ Rd w' q s a d ∧ Adds w w' q)
        ∧ (∀ w, Calls Tryd.prog 23 #[curV s a c] w fun e w' => e = .returned (curV s a d) ∧ Below w.heap.size w w')) := ⟨hr, hcur⟩
      clear hr hcur hfin
      have x0 := hS.cu.text
      have x1 := hS.cu.at
      have x2 := hS.cu.code
      go_wp2_with fail
      refine (HD.out.2 _).mono ?_
      rintro e w6 ⟨rfl, hb6⟩
      have hS6 := hS.below hb6
      have y0 := hS6.cu.text
      have y1 := hS6.cu.at
      have y2 := hS6.cu.code
      have yf := hS6.cu.free
      have yl := hS6.cu.lt
      have hS7 := hS6.store a d
      clear hb6 hS hS6 x0 x1 x2
      have z2 := hS7.cu.code
      go_wp2_with fail
      generalize (((w6.setCell ⟨qc, 0, none⟩ (.string s)).setCell ⟨qc, 1, none⟩ (.int .i64 a)).setCell ⟨qc, 2, none⟩ (.int .i64 d)) = W7 at hS7 z2 ⊢
      clear y0 y1 y2 yf yl
      go_region_with (first
        | (go_at_call 24; refine (HD.out.1 _ _ ?_).mono ?_; exact hS7.rd.drew; rintro e w8 ⟨g8, rfl, hF8, hg8, hR8, hA8⟩; have hS8 := hS7.drew.read hR8 hA8; have z8 := hS8.cu.code; have e8 := hS8.et HE.out.1)
        | (go_at_call_of 21 g8; refine (of_fault g8 d w8 e8 hF8).mono ?_; rintro e w9 ⟨rfl, hb9⟩; have hS9 := hS8.below hb9; have z9 := hS9.cu.code)
        | (go_at_call 22; refine (err_fault w.heap.size s a d w9 hS9.rd hd).mono ?_; rintro e w10 ⟨g10, rfl, hF10, hg10, hR10, hA10⟩; have hS10 := hS9.read hR10 hA10; have z10 := hS10.cu.code; have e10 := hS10.et HE.out.1)
        | (go_at_call_of 21 g10; refine (of_fault g10 d w10 e10 hF10).mono ?_; rintro e w11 ⟨rfl, hb11⟩; have hS11 := hS10.below hb11; have z11 := hS11.cu.code))
      all_goals (try go_wp2)
      all_goals go_ret
      all_goals refine ⟨ret_b ?_, hS11.bel⟩
      all_goals simp
    · obtain rfl : c = 0 := by omega
      have hal : ¬ a < s.size := by omega
      have x0 := hS.cu.text
      have x1 := hS.cu.at
      have x2 := hS.cu.code
      go_wp2_with fail
      refine (cdone_same s a 0 _ (.inr (by omega))).mono ?_
      rintro e w6 ⟨rfl, hb6⟩
      have hS6 := hS.below hb6
      have y0 := hS6.cu.text
      have y1 := hS6.cu.at
      have y2 := hS6.cu.code
      have yf := hS6.cu.free
      have yl := hS6.cu.lt
      have hS7 := hS6.store a 0
      clear hb6 hS hS6 x0 x1 x2
      have z2 := hS7.cu.code
      go_wp2_with fail
      generalize (((w6.setCell ⟨qc, 0, none⟩ (.string s)).setCell ⟨qc, 1, none⟩ (.int .i64 a)).setCell ⟨qc, 2, none⟩ (.int .i64 0)) = W7 at hS7 z2 ⊢
      clear y0 y1 y2 yf yl
      go_quiet (first
        | (go_at_call 24; refine Calls.quiet_of (done_quiet w.heap.size s a _ (hS7.rd.drewN _) hal))
        | (go_at_call 22; refine Calls.quiet_of_same (err_nil w.heap.size s a _ (hS7.rd.drewN _)))
        | (go_at_call 21; refine Calls.quiet_of_same (of_nil _)))
      go_wp2
      go_ret
      exact ⟨by simp, hS7.bel.trans ⟨rfl, rfl, rfl, Nat.le_refl _, fun _ _ => rfl⟩⟩

/-! ### The row's step -/
set_option maxRecDepth 100000 in
theorem lifted (os : Os) (started : os.Started) (H : Type) (enc : TypeId × Value → H) :
    ReturnsInHanded {} Tryd.checked os 3 .any (fun w args => (Rows.codeReadsSpec.pre enc Tryd.prog Tryd.f3 [] false w args ∧ laidMetH Tryd.prog Rows.codeReadsRow.laid w) ∧ sizedMet enc Tryd.prog Tryd.f3 (OpenSpec.ofChange Rows.codeReadsSpec) false w args) (Rows.codeReadsSpec.post enc Tryd.prog Tryd.f3 false true false false) := by
  refine returnsInHanded_of_change_and (C := Tryd.checked) (X := fun w _ => laidMetH Tryd.prog Rows.codeReadsRow.laid w) (fun _ _ _ hh h => h.of_heap hh) own started (by kernel_rfl) Tryd.func3
    (ChangeSpec.witness_at (enc := enc) (C := Tryd.checked) (os := os) (X := fun w _ => laidMetH Tryd.prog Rows.codeReadsRow.laid w) false ({ World.holding Tryd.prog os ⟨#[], #[], []⟩ with heap := (World.holding Tryd.prog os ⟨#[], #[], []⟩).heap.modify 0 fun | .cells _ t frozen => .cells #[.iface 87 (.agg #[.pointer (some ⟨1, 48, none⟩)])] t frozen | o => o }) #[.string ByteArray.empty, .slice none 0 0] 8 rfl (by kernel_rfl) (by kernel_rfl) (by kernel_rfl) (by kernel_rfl) (by kernel_rfl) (laidMetH_of_parts (laidMet_nil _ _) (by kernel_rfl))) ?_
  intro W base args ds gs before hval0 hW _ _ hL _
  have hval : ∀ (j : Nat) t v, Tryd.f3.params[j]? = some t → args[j]? = some v → Value.okWide Tryd.prog W .any base t v := hval0
  have hW' := hW
  obtain ⟨p, q, hA0, hV, rfl, hfz, hnd⟩ := hW
  have hA : DataW.TrodAll enc Tryd.prog W 0 (fun _ => true) true Tryd.f3.params.toList args.toList ds p := hA0
  rw [Tryd.params3] at hA hval
  obtain ⟨v0, vs0, d0, ds0, p0, q0, hargs, rfl, rfl, h0, r0⟩ := trodAll_cons hA
  obtain ⟨v1, vs1, d1, ds1, p1, q1, rfl, rfl, rfl, h1, r1⟩ := trodAll_cons r0
  obtain ⟨rfl, rfl, rfl⟩ := trodAll_nil r1
  obtain rfl : args = #[v0, v1] := by cases args; simp_all
  obtain ⟨rfl, rfl⟩ := trodVars_none hV
  obtain ⟨a0, rfl, rfl, rfl, w0⟩ := open_string Tryd.underlying9 (hval 0 9 v0 rfl rfl) h0
  obtain ⟨a1, len1, cap1, rfl⟩ := okWide_slice Tryd.underlying22 (hval 1 22 v1 rfl rfl)
  have k1 := h1
  have lt1 : ∀ x ∈ p1, x.block < W.heap.size := by obtain ⟨m, hm⟩ := k1; exact DataW.trod_lt m _ _ _ hm
  obtain ⟨t1, w1⟩ : ∃ ts, IsThings W a1 len1 cap1 ts := by
    obtain ⟨fuel, hf⟩ := h1
    exact things_of hf
  clear hA0 hval0
  have hE := handle_of_laid hL
  refine (walk a0 a1 len1 cap1 t1 W hE w0 w1).mono fun e W' ⟨he, bel⟩ => ?_
  subst he
  exact ⟨_, rfl, _, _, _, [], _, [], hW', trodAll_mk1 (shut_bool Tryd.underlying4 _), (trodAll_cons_mk (shut_string Tryd.underlying9 w0) (trodAll_cons_mk (Below.trod laidOut (by kernel_rfl) (of_decide_eq_true (by kernel_rfl)) k1 bel lt1) trodAll_mk0)), rfl, bel.frame _, fun h => by cases h⟩

theorem over : Rows.codeReadsRow.holds Tryd.pinned (OpenSpec.ofChange Rows.codeReadsSpec) :=
  OpenClaim.holds_of_wide 3 Tryd.f3 rfl rfl rfl rfl rfl rfl rfl ⟨rfl, rfl, rfl, rfl, rfl⟩ rfl rfl rfl rfl rfl (by kernel_rfl) Tryd.func3 (by kernel_rfl)
    (of_decide_eq_true (by kernel_rfl)) (by unfold Func.isWrapper; first | (rw [if_pos (by decide +kernel)]; kernel_rfl) | (rw [if_neg (by decide +kernel)]; exact ⟨rfl, rfl⟩))
    (fun os started H enc _ => lifted os started H enc)

theorem card : Rows.CodeReadsCardSaid :=
  Claim7.holds_tied_plain_at .later [] [.handle] true (true, "6aacf6edaab462a4eb4776fd7baaeed8d584f891605cc816118d6e827fdbf6ea") true
    over (fun _ h => by cases h) (by kernel_rfl) (fun _ h => by cases h) codeReads_row_tie rfl ⟨rfl, rfl⟩ (by kernel_rfl) rfl
    (fun f fn hf hfn => by
      obtain rfl : f = 3 := Option.some.inj ((show Tryd.prog.funcNamed "wigwag/wigwaglaw02.CodeReads" = some 3 by kernel_rfl).symm.trans hf) |>.symm
      obtain rfl : fn = Tryd.f3 := (Option.some.inj (Tryd.func3.symm.trans hfn)).symm
      exact ⟨by kernel_rfl, fun j t ht => by
        rw [Tryd.params3] at ht
        have hall : ∀ t ∈ ([9, 22] : List TypeId), Tryd.prog.wantsStandIn t = false := by
          intro t ht
          simp only [List.mem_cons, List.not_mem_nil, or_false] at ht
          rcases ht with rfl | rfl <;> kernel_rfl
        exact hall t (by simpa using List.mem_of_getElem? (l := ([9, 22] : List TypeId)) (i := j) (by simpa using ht))⟩)
    (by kernel_rfl)

end Go.Proofs.YticdikllfkfkfaaDoor.codeReads

namespace Go.Proofs.YticdikllfkfkfaaDoor
/-- Proved: for every text and every list of things, CodeReads answers true (any bytes of at most 1000 are read as any 40 things as the document's own reader reads them: the same answer, the same place, the same code, and the same at the end), errors.errorType being laid as the program's text lays it (the card's tie, over the pruned copy). -/
theorem codeReads_holds : Rows.CodeReadsCardSaid := codeReads.card
#print axioms codeReads_holds
end Go.Proofs.YticdikllfkfkfaaDoor
