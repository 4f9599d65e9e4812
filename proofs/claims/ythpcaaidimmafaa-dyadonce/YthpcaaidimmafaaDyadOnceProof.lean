/- Proved: for every range, cell and number of levels, DyadOnce answers true (a cover is its range, each cell once, by few intervals; of a cell just one of them is in its chain, if it lies in the range; else none).
  The frame is the guide's own shell (proof-skeleton.mjs) at this function; the walk and all ahead of it are mine. -/
import Derived.Test.YthpcaaidimmafaaRows
import Derived.Test.YthpcaaidimmafaaDyCov3
import Derived.Test.YthpcaaidimmafaaDyOnce
import Derived.Deep.CutBlock
import Derived.Deep.DeepCutAuto
import Derived.WalkKit
import Derived.WalkLawsBesides
import Derived.ProofKit
import Derived.OpenShut
import Derived.ShutString
namespace Go.Proofs.Ythpcaaidimmafaa.dyadOnce
open Go.ChangeShapes Go.WideShapes Go.ChangeAt Go.RowKit
open Go.ChangeMaps (open_string shut_string)
set_option linter.unusedVariables false      -- a walk need not use every 'w<i>' (that an integer argument fits its kind)

theorem own : ownKnob Try.prog.godebug = none := by kernel_rfl


/-! ### STEP 1: THE WALK: the Go text returns true. 'Grown w w'': the world has at most new blocks (Derived/RowKit3.lean). Part the cases AHEAD of 'go_enter' where a test parts the walk; take each callee by a contract of your own. -/
set_option maxRecDepth 100000 in
set_option maxHeartbeats 2000000 in
theorem walk (a0 : Int) (a1 : Int) (a2 : Int) (a3 : Int) (w0 : (Lit.int .i64 a0).wf = true) (w1 : (Lit.int .i64 a1).wf = true) (w2 : (Lit.int .i64 a2).wf = true) (w3 : (Lit.int .i64 a3).wf = true) (w : World) :
    Calls Try.prog 5 #[.int .i64 a0, .int .i64 a1, .int .i64 a2, .int .i64 a3] w fun e w' => e = .returned (.bool true) ∧ Below w.heap.size w w' := by
  clear w0 w1 w2 w3
  by_cases hgd : 0 ≤ a2 ∧ a2 ≤ 8 ∧ 0 ≤ a0 ∧ a0 ≤ a1 ∧ a1 < 2 ^ a2.toNat
  · obtain ⟨g1, g2, g3, g4, g5⟩ := hgd
    obtain ⟨n, rfl⟩ : ∃ n : Nat, a2 = n := ⟨a2.toNat, by omega⟩
    obtain ⟨lo, rfl⟩ : ∃ n : Nat, a0 = n := ⟨a0.toNat, by omega⟩
    obtain ⟨hi, rfl⟩ : ∃ n : Nat, a1 = n := ⟨a1.toNat, by omega⟩
    have hn : n ≤ 8 := by omega
    have hlh : lo ≤ hi := by omega
    have hhi : hi < 2 ^ n := by
      have : ((hi : Nat) : Int) < ((2 ^ n : Nat) : Int) := by rw [Int.natCast_pow]; simpa using g5
      omega
    have h256 := pow_le_256 hn
    have hh256 : hi < 256 := by omega
    have hc := cover_yes lo hi n w hn (by omega) hhi
    have HC : Hid _ := hc
    have hpos := cover_pos lo hi n hlh
    have hfew := cover_few lo hi n hlh hhi
    have HCH : Hid _ := fun W => chainOf_any a3 n W
    have HCNT : Hid (cnt (chainOf a3 n) (cover lo hi n) = if (lo : Int) ≤ a3 ∧ a3 ≤ hi then 1 else 0) := cnt_of a3 n lo hi n rfl hn hhi
    have hchl := chainOf_len a3 n
    have HHI : Hid (hi < 2 ^ n) := hhi
    clear hc g1 g2 g3 g4 g5 hhi h256
    go_enter Try.func5, Try.ntmps5
    go_wp2_with fail
    refine Calls.mono HC.out ?_
    rintro e w1 ⟨v, rfl, hr⟩
    have HB1 : Hid (Below w.heap.size w w1) := hr.bel
    obtain ⟨a, cp, rfl, hsh⟩ := hr.isIn.shape
    obtain ⟨g, rfl, hg, hcap, hj⟩ := hsh hpos
    have HD0 : Hid ((cover lo hi n).drop 0 = cover lo hi n) := (rfl : (cover lo hi n).drop 0 = cover lo hi n)
    obtain ⟨m, hm⟩ : ∃ m, m = (cover lo hi n).length := ⟨_, rfl⟩
    rw [← hm] at hpos hfew hcap hj ⊢
    have HM : Hid (m = (cover lo hi n).length) := hm
    have HJ : Hid _ := hj
    clear hm hr hsh hj
    have hm14 : m ≤ 14 := by omega
    have hm0 : ¬ ((m : Int) = 0) := by omega
    go_upto_region 4 with fail
    go_cut [66] (fun v wx => v = .bool false ∧ w1 = wx)
    case first =>
      by_cases hb : 1 < 2 * (n : Int) - 2
      all_goals
        have hmx : ¬ ((2 * (n : Int) - 2 < (m : Int)) ∧ (1 < 2 * (n : Int) - 2)) := by omega
        go_wp2_with fail
        go_meet
        exact ⟨by simp <;> omega, rfl⟩
    case rest =>
      obtain ⟨rfl, rfl⟩ := hcut
      go_wp2
      go_loopg [10, 70] m (fun kx s10 s70 wr => ∃ k x : Nat, s70 = .int .i64 k ∧ s10 = .int .i64 x ∧ k ≤ m ∧ kx = m - k ∧ x ≤ hi + 1 ∧ Hid ((cover lo hi n).drop k = cover x hi n) ∧ Hid (Below w1.heap.size w1 wr))
      case atStart => exact ⟨0, lo, rfl, rfl, Nat.zero_le _, rfl, by omega, HD0, (Below.refl _ _ : Below w1.heap.size w1 w1)⟩
      case round =>
        obtain ⟨k, x, rfl, rfl, hk, rfl, hx, HD, HB2⟩ := hrel
        by_cases hlt : k < m
        · obtain ⟨hxh, hget, hdr⟩ := drop_cover HD.out (by rw [← HM.out]; exact hlt)
          obtain ⟨c0, c1⟩ := HJ.out k hlt
          rw [hget] at c0 c1
          have e : ∀ o, wr.cell? ⟨g, o, none⟩ = w1.cell? ⟨g, o, none⟩ := fun o => HB2.out.cell (p := ⟨g, o, none⟩) hg
          rw [← e] at c0 c1
          have hfit := nx_fits x hi n hxh
          have hll := lv_le x hi n
          have hcl := fun W => cells_yes (lv x hi n) (x / 2 ^ (n - lv x hi n)) n W hll hn (chain_fit x hi n _ hll (by have := HHI.out; omega))
          have hpp := pow_pos2 (n - lv x hi n)
          rw [Nat.add_mul, hfit.1, Nat.one_mul] at hcl
          have hy : x + 2 ^ (n - lv x hi n) ≤ hi + 1 := hfit.2
          have HDR : Hid ((cover lo hi n).drop (k + 1) = cover (x + 2 ^ (n - lv x hi n)) hi n) := hdr
          replace c0 : wr.cell? ⟨g, k * 2, none⟩ = some (.int .i64 (lv x hi n : Nat)) := c0
          replace c1 : wr.cell? ⟨g, k * 2 + 1, none⟩ = some (.int .i64 ((x / 2 ^ (n - lv x hi n) : Nat) : Int)) := c1
          clear hdr hget hfit hll
          generalize x / 2 ^ (n - lv x hi n) = q at c1 hcl
          generalize 2 ^ (n - lv x hi n) = P at hcl hpp hy HDR
          generalize lv x hi n = r at c0 hcl
          have HCL : Hid _ := hcl
          have hlt1 : g < wr.heap.size := Nat.lt_of_lt_of_le hg HB2.out.size
          clear e hcl
          go_wp2_with fail
          refine Calls.mono (HCL.out _) ?_
          rintro e w2 ⟨rfl, hb2⟩
          have HB3 : Hid (Below w1.heap.size w1 w2) := HB2.out.trans (((dbel1 wr _).trans (hb2.mono (by simp))).mono HB2.out.size)
          clear hb2 c0 c1
          have t1 : ¬ ((x : Int) + (P : Int) - 1 < (x : Int)) := by omega
          go_wp2
          go_roundg (m - (k + 1))
          case measure => omega
          case rel => exact ⟨k + 1, x + P, by go_num, by simp, by omega, rfl, by omega, HDR, HB3⟩
        · obtain rfl : m = k := by omega
          have hxe : x = hi + 1 := by
            have h1 := HD.out
            rw [HM.out, List.drop_length] at h1
            apply Classical.byContradiction; intro hh
            have := cover_pos x hi n (by omega)
            rw [← h1] at this; simp at this
          subst hxe
          go_wp2_with fail
          refine Calls.mono (HCH.out _) ?_
          rintro e w2 ⟨v2, rfl, hr2⟩
          obtain ⟨a', cp', rfl, hsh2⟩ := hr2.isIn.shape
          have HB3 : Hid (Below w1.heap.size w1 w2) := HB2.out.trans (hr2.bel.mono HB2.out.size)
          have HB3' : Hid (Below w.heap.size w w2) := HB1.out.trans (HB3.out.mono HB1.out.size)
          have HJ2 : Hid _ := hsh2
          obtain ⟨ch, hch⟩ : ∃ ch, ch = chainOf a3 n := ⟨_, rfl⟩
          rw [← hch] at HCNT HJ2 hchl ⊢
          generalize cover lo hi n = l at HM HJ HCNT
          have HP0 : Hid (((0 : Nat) : Int) = ((cnt (ch.take 0) l : Nat) : Int)) := (rfl : ((0 : Nat) : Int) = ((cnt (ch.take 0) l : Nat) : Int))
          have hln : l.length ≤ 14 := by rw [← HM.out]; exact hm14
          clear hr2 hsh2 HD hch HD0
          go_wp2
          go_loopg [15, 99] ch.length (fun kx s15 s99 wr => ∃ k : Nat, s99 = .int .i64 k ∧ k ≤ ch.length ∧ kx = ch.length - k ∧ s15 = .int .i64 ((cnt (ch.take k) l : Nat) : Int) ∧ Hid (Below w2.heap.size w2 wr))
          case atStart => exact ⟨0, rfl, Nat.zero_le _, rfl, rfl, (Below.refl _ _ : Below w2.heap.size w2 w2)⟩
          case round =>
            obtain ⟨k, rfl, hk2, rfl, rfl, HB4⟩ := hrel
            have hcb : cnt (ch.take k) l ≤ 126 := by
              refine Nat.le_trans (cnt_le _ _) ?_
              refine Nat.le_trans (Nat.mul_le_mul (show (ch.take k).length ≤ 9 by simp; omega) hln) (by omega)
            by_cases hlt : k < ch.length
            · obtain ⟨g', rfl, hg', hcap', hj'⟩ := HJ2.out (by omega)
              obtain ⟨c0, c1⟩ := hj' k hlt
              have e : ∀ o, wr.cell? ⟨g', o, none⟩ = w2.cell? ⟨g', o, none⟩ := fun o => HB4.out.cell (p := ⟨g', o, none⟩) hg'
              rw [← e] at c0 c1
              have HCT : Hid (cnt (ch.take (k + 1)) l = cnt (ch.take k) l + l.count (ch.getD k iv0)) := cnt_take ch l k hlt
              have hlt1 : g' < wr.heap.size := Nat.lt_of_lt_of_le hg' HB4.out.size
              generalize ch.getD k iv0 = x at c0 c1 HCT
              generalize cnt (ch.take k) l = c at *
              clear e hj'
              rename World => wq
              have hb1q := (dbel1 wq (.cells #[.int .i64 x.lev, .int .i64 x.idx] 23))
              have HBQ : Hid (Below w2.heap.size w2 (wq.alloc (.cells #[.int .i64 x.lev, .int .i64 x.idx] 23))) := HB4.out.trans (hb1q.mono HB4.out.size)
              have HX0 : Hid ((wq.alloc (.cells #[.int .i64 x.lev, .int .i64 x.idx] 23)).cell? ⟨wq.heap.size, 0, none⟩ = some (.int .i64 x.lev) ∧ (wq.alloc (.cells #[.int .i64 x.lev, .int .i64 x.idx] 23)).cell? ⟨wq.heap.size, 1, none⟩ = some (.int .i64 x.idx)) := ⟨by simp, by simp⟩
              clear hb1q
              go_wp2
              go_loopg [15, 105] m (fun kx s15 s105 wr => ∃ j : Nat, s105 = .int .i64 j ∧ j ≤ m ∧ kx = m - j ∧ s15 = .int .i64 ((c + (l.take j).count x : Nat) : Int) ∧ Hid (Below (wq.heap.size + 1) (wq.alloc (.cells #[.int .i64 x.lev, .int .i64 x.idx] 23)) wr))
              case atStart => exact ⟨0, rfl, Nat.zero_le _, rfl, by simp, (Below.refl _ _ : Below (wq.heap.size + 1) (wq.alloc (.cells #[.int .i64 x.lev, .int .i64 x.idx] 23)) _)⟩
              case round =>
                obtain ⟨j, rfl, hj3, rfl, rfl, HB5⟩ := hrel
                have hcj : (l.take j).count x ≤ 14 := Nat.le_trans List.count_le_length (by simp; omega)
                by_cases hjl : j < m
                · obtain ⟨d0, d1⟩ := HJ.out j hjl
                  have hgq : g < wq.heap.size := Nat.lt_of_lt_of_le hg (Nat.le_trans HB3.out.size HB4.out.size)
                  have e : ∀ o, wr.cell? ⟨g, o, none⟩ = w1.cell? ⟨g, o, none⟩ := fun o => by
                    rw [HB5.out.cell (p := ⟨g, o, none⟩) (by simp; omega), HBQ.out.cell (p := ⟨g, o, none⟩) (Nat.lt_of_lt_of_le hg HB3.out.size), HB3.out.cell (p := ⟨g, o, none⟩) hg]
                  rw [← e] at d0 d1
                  have f0 : wr.cell? ⟨wq.heap.size, 0, none⟩ = some (.int .i64 x.lev) := (HB5.out.cell (p := ⟨wq.heap.size, 0, none⟩) (by simp)).trans HX0.out.1
                  have f1 : wr.cell? ⟨wq.heap.size, 1, none⟩ = some (.int .i64 x.idx) := (HB5.out.cell (p := ⟨wq.heap.size, 1, none⟩) (by simp)).trans HX0.out.2
                  have hwz : wq.heap.size + 1 ≤ wr.heap.size := by have := HB5.out.size; simpa using this
                  have hgz : g < wr.heap.size := by omega
                  have hqz : wq.heap.size < wr.heap.size := by omega
                  have HCT2 : Hid ((l.take (j + 1)).count x = (l.take j).count x + if x = l.getD j iv0 then 1 else 0) := count_take l x j (by rw [← HM.out]; exact hjl)
                  have HB6 : Hid (Below (wq.heap.size + 1) (wq.alloc (.cells #[.int .i64 x.lev, .int .i64 x.idx] 23)) (wr.alloc (.cells #[.int .i64 (l.getD j iv0).lev, .int .i64 (l.getD j iv0).idx] 23))) := HB5.out.alloc hwz _
                  generalize l.getD j iv0 = y at d0 d1 HCT2 HB6
                  generalize (l.take j).count x = c2 at *
                  clear e
                  by_cases hxy : x = y
                  · subst hxy
                    have HE : Hid ((l.take (j + 1)).count x = c2 + 1) := (by rw [HCT2.out]; simp : (l.take (j + 1)).count x = c2 + 1)
                    go_wp2
                    go_roundg (m - (j + 1))
                    case measure => omega
                    case rel => exact ⟨j + 1, by go_num, by omega, rfl, by rw [HE.out]; go_num, HB6⟩
                  · have HE : Hid ((l.take (j + 1)).count x = c2) := (by rw [HCT2.out, if_neg hxy]; rfl : (l.take (j + 1)).count x = c2)
                    have hd : ¬ (x.lev = y.lev ∧ x.idx = y.idx) := fun h => hxy (by cases x; cases y; simp at h; simp [h])
                    by_cases hl1 : x.lev = y.lev
                    · have hl2 : ¬ x.idx = y.idx := fun h => hd ⟨hl1, h⟩
                      clear hd
                      go_wp2
                      go_roundg (m - (j + 1))
                      case measure => omega
                      case rel => exact ⟨j + 1, by go_num, by omega, rfl, by rw [HE.out], HB6⟩
                    · clear hd
                      go_wp2
                      go_roundg (m - (j + 1))
                      case measure => omega
                      case rel => exact ⟨j + 1, by go_num, by omega, rfl, by rw [HE.out], HB6⟩
                · obtain rfl : m = j := by omega
                  have HE : Hid (c + (l.take m).count x = cnt (ch.take (k + 1)) l) := (by rw [HCT.out, HM.out, List.take_length] : c + (l.take m).count x = cnt (ch.take (k + 1)) l)
                  have HB7 : Hid (Below w2.heap.size w2 wr) := HBQ.out.trans (HB5.out.mono (by have := HB4.out.size; omega))
                  rw [HE.out]
                  go_wp2
                  go_roundg (ch.length - (k + 1))
                  case measure => omega
                  case rel => exact ⟨k + 1, by go_num, by omega, rfl, by simp, HB7⟩
            · obtain rfl : k = ch.length := by omega
              rw [List.take_length] at *
              have HB7 : Hid (Below w.heap.size w wr) := HB3'.out.trans (HB4.out.mono HB3'.out.size)
              by_cases hin1 : (lo : Int) ≤ a3
              · by_cases hin2 : a3 ≤ (hi : Int)
                · have hct : cnt ch l = 1 := by rw [HCNT.out, if_pos ⟨hin1, hin2⟩]
                  rw [hct]
                  go_wp2_with fail
                  refine (awake7_any _).mono ?_
                  rintro e w3 ⟨rfl, hb3⟩
                  have HB8 : Hid (Below w.heap.size w w3) := HB7.out.trans (hb3.mono HB7.out.size)
                  clear hb3
                  go_wp2
                  go_ret
                  exact ⟨rfl, HB8.out⟩
                · have hct : cnt ch l = 0 := by rw [HCNT.out, if_neg (fun h => hin2 h.2)]
                  rw [hct]
                  go_wp2_with fail
                  refine (awake7_any _).mono ?_
                  rintro e w3 ⟨rfl, hb3⟩
                  have HB8 : Hid (Below w.heap.size w w3) := HB7.out.trans (hb3.mono HB7.out.size)
                  clear hb3
                  go_wp2
                  go_ret
                  exact ⟨rfl, HB8.out⟩
              · have hct : cnt ch l = 0 := by rw [HCNT.out, if_neg (fun h => hin1 h.1)]
                rw [hct]
                go_wp2_with fail
                refine (awake7_any _).mono ?_
                rintro e w3 ⟨rfl, hb3⟩
                have HB8 : Hid (Below w.heap.size w w3) := HB7.out.trans (hb3.mono HB7.out.size)
                clear hb3
                go_wp2
                go_ret
                exact ⟨rfl, HB8.out⟩
  · have hc := coverOf_any a0 a1 a2 w
    rw [not_cover hgd] at hc
    have HC : Hid _ := hc
    have HG : Hid (¬ (0 ≤ a2 ∧ a2 ≤ 8 ∧ 0 ≤ a0 ∧ a0 ≤ a1 ∧ a1 < 2 ^ a2.toNat)) := hgd
    clear hc hgd
    by_cases d1 : a2 < 0
    · go_enter Try.func5, Try.ntmps5
      go_wp2_with fail
      refine Calls.mono HC.out ?_
      rintro e w1 ⟨v, rfl, hr⟩
      obtain ⟨a, cp, rfl, _⟩ := hr.isIn.shape
      have HB : Hid (Below w.heap.size w w1) := hr.bel
      clear hr
      go_wp2_with fail
      refine (awake7_any _).mono ?_
      rintro e w2 ⟨rfl, hb2⟩
      have HB2 : Hid (Below w.heap.size w w2) := HB.out.trans (hb2.mono HB.out.size)
      clear hb2
      go_wp2
      go_ret
      exact ⟨rfl, HB2.out⟩
    · by_cases d2 : 8 < a2
      · go_enter Try.func5, Try.ntmps5
        go_wp2_with fail
        refine Calls.mono HC.out ?_
        rintro e w1 ⟨v, rfl, hr⟩
        obtain ⟨a, cp, rfl, _⟩ := hr.isIn.shape
        have HB : Hid (Below w.heap.size w w1) := hr.bel
        clear hr
        go_wp2_with fail
        refine (awake7_any _).mono ?_
        rintro e w2 ⟨rfl, hb2⟩
        have HB2 : Hid (Below w.heap.size w w2) := HB.out.trans (hb2.mono HB.out.size)
        clear hb2
        go_wp2
        go_ret
        exact ⟨rfl, HB2.out⟩
      · obtain ⟨n, rfl⟩ : ∃ n : Nat, a2 = n := ⟨a2.toNat, by omega⟩
        have hpw : (2 : Int) ^ n = ((2 ^ n : Nat) : Int) := by simp
        have hp2 := pow_le_256 (show n ≤ 8 by omega)
        have HG2 : Hid (a1 < a0 ∨ a0 < 0 ∨ ((2 ^ n : Nat) : Int) ≤ a1) := by
          have h := HG.out
          rw [Int.toNat_natCast, hpw] at h
          show _ ∨ _ ∨ _
          omega
        generalize 2 ^ n = P at *
        by_cases d3 : a1 < a0
        all_goals by_cases d4 : a0 < 0
        all_goals by_cases d5 : ((P : Nat) : Int) ≤ a1
        all_goals first | (exfalso; have := HG2.out; omega) | skip
        all_goals
          go_enter Try.func5, Try.ntmps5
          go_wp2_with fail
          refine Calls.mono HC.out ?_
          rintro e w1 ⟨v, rfl, hr⟩
          obtain ⟨a, cp, rfl, _⟩ := hr.isIn.shape
          have HB : Hid (Below w.heap.size w w1) := hr.bel
          clear hr
          go_wp2_with fail
          refine (awake7_any _).mono ?_
          rintro e w2 ⟨rfl, hb2⟩
          have HB2 : Hid (Below w.heap.size w w2) := HB.out.trans (hb2.mono HB.out.size)
          clear hb2
          go_wp2
          go_ret
          exact ⟨ret_b (by simp [*]), HB2.out⟩

/-! ### THE ROW's STEP: WRITTEN OUT: LEAVE IT -/
set_option maxRecDepth 100000 in
theorem lifted (os : Os) (started : os.Started) (H : Type) (enc : TypeId × Value → H) :
    ReturnsInHanded {} Try.checked os 5 .any (Rows.dyadOnceSpec.pre6 enc Try.prog Try.f5 Rows.dyadOnceRow.domain false) (Rows.dyadOnceSpec.post enc Try.prog Try.f5 false true false false) := by
  refine returnsInHanded_of_change (C := Try.checked) own started (by kernel_rfl) Try.func5
    (ChangeSpec.witness6 (enc := enc) (C := Try.checked) false ⟨#[], #[.int .i64 0, .int .i64 0, .int .i64 0, .int .i64 0], []⟩ 8 (by kernel_rfl) (by kernel_rfl) (by kernel_rfl) (by kernel_rfl)) ?_
  intro W base args ds gs before hval0 hW hcnd _
  have hval : ∀ (j : Nat) t v, Try.f5.params[j]? = some t → args[j]? = some v → Value.okWide Try.prog W .any base t v := hval0
  have hW' := hW
  obtain ⟨p, q, hA0, hV, rfl, hfz, hnd⟩ := hW
  have hA : DataW.TrodAll enc Try.prog W 0 (fun _ => true) true Try.f5.params.toList args.toList ds p := hA0
  rw [Try.params5] at hA hval
  obtain ⟨v0, vs0, d0, ds0, p0, q0, hargs, rfl, rfl, h0, r0⟩ := trodAll_cons hA
  obtain ⟨v1, vs1, d1, ds1, p1, q1, rfl, rfl, rfl, h1, r1⟩ := trodAll_cons r0
  obtain ⟨v2, vs2, d2, ds2, p2, q2, rfl, rfl, rfl, h2, r2⟩ := trodAll_cons r1
  obtain ⟨v3, vs3, d3, ds3, p3, q3, rfl, rfl, rfl, h3, r3⟩ := trodAll_cons r2
  obtain ⟨rfl, rfl, rfl⟩ := trodAll_nil r3
  obtain rfl : args = #[v0, v1, v2, v3] := by cases args; simp_all
  obtain ⟨rfl, rfl⟩ := trodVars_none hV
  obtain ⟨a0, rfl, rfl, rfl, w0⟩ := open_int Try.underlying3 (hval 0 3 v0 rfl rfl) h0
  obtain ⟨a1, rfl, rfl, rfl, w1⟩ := open_int Try.underlying3 (hval 1 3 v1 rfl rfl) h1
  obtain ⟨a2, rfl, rfl, rfl, w2⟩ := open_int Try.underlying3 (hval 2 3 v2 rfl rfl) h2
  obtain ⟨a3, rfl, rfl, rfl, w3⟩ := open_int Try.underlying3 (hval 3 3 v3 rfl rfl) h3
  clear hA0 hval0
  simp only [List.append_nil] at hW'
  refine (walk a0 a1 a2 a3 w0 w1 w2 w3 W).mono fun e W' ⟨he, bel⟩ => ?_
  subst he
  exact ⟨_, rfl, _, _, _, [], [], [], hW', trodAll_mk1 (shut_bool Try.underlying4 _), (trodAll_cons_mk (shut_int Try.underlying3 w0) (trodAll_cons_mk (shut_int Try.underlying3 w1) (trodAll_cons_mk (shut_int Try.underlying3 w2) (trodAll_cons_mk (shut_int Try.underlying3 w3) trodAll_mk0)))), rfl, bel.frame _, fun h => by cases h⟩

theorem over : Rows.dyadOnceRow.holds Try.pinned (OpenSpec.ofChange Rows.dyadOnceSpec) :=
  OpenClaim.holds_of_wide 5 Try.f5 rfl rfl rfl rfl rfl rfl rfl ⟨rfl, rfl, rfl, rfl, rfl⟩ rfl rfl rfl rfl rfl (by kernel_rfl) Try.func5 (by kernel_rfl)
    (of_decide_eq_true (by kernel_rfl)) (by unfold Func.isWrapper; first | (rw [if_pos (by decide +kernel)]; kernel_rfl) | (rw [if_neg (by decide +kernel)]; exact ⟨rfl, rfl⟩))
    (fun os started H enc _ => lifted os started H enc)

end Go.Proofs.Ythpcaaidimmafaa.dyadOnce

namespace Go.Proofs.Ythpcaaidimmafaa
/-- Proved: for every range, cell and number of levels, DyadOnce answers true (a cover is its range, each cell once, by few intervals; of a cell just one of them is in its chain, if it lies in the range; else none). -/
theorem dyadOnce_holds : Rows.DyadOnceSaid := dyadOnce.over
#print axioms dyadOnce_holds
end Go.Proofs.Ythpcaaidimmafaa
