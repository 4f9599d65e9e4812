/- Proved: for every list of entries, TableLast answers true (what was put last of a group and a child is what is there; of at most 30 entries).
  The frame is the guide's own shell (proof-skeleton.mjs) at this function; the walk and all ahead of it are mine. -/
import Derived.Test.YtmnlbheicedloaaRows
import Derived.Test.YtmnlbheicedloaaTbLast
import Derived.Deep.QuietTactic
import Derived.BigQuiet
import Derived.Deep.CutBlock
import Derived.Deep.DeepCutAuto
import Derived.Deep.LoopGhost
import Derived.WalkKit
import Derived.WalkLawsBesides
import Derived.ProofKit
import Derived.OpenShut
import Derived.ShutString
import Derived.ChangeOld
import Derived.Below
namespace Go.Proofs.Ytmnlbheicedloaa.tableLast
open Go.ChangeShapes Go.WideShapes Go.ChangeAt Go.RowKit
open Go.ChangeMaps (open_string shut_string)
set_option linter.unusedVariables false

theorem own : ownKnob Try.prog.godebug = none := by kernel_rfl
theorem laidOut : laidOutB Try.prog = true := by kernel_rfl


theorem ownT_asc {B : Nat} {w0 w : World} {r : Nat} {X : List Ep} (h : OwnT B w0 w r X) : Asc ltK (X.map Ep.key) := by
  obtain ⟨v, hv⟩ := h.tab
  exact hv.asc
theorem cmp_zero_iff (x : Ep) (g : ByteArray) (c : Int) : (cmpK x.key (g, c) == 0) = (ofG g x && (x.ch == c)) := by
  have h := cmpK_zero x.key (g, c)
  by_cases e : x.key = (g, c)
  · have e1 : x.gr = g := congrArg Prod.fst e
    have e2 : x.ch = c := congrArg Prod.snd e
    simp [h.2 e, ofG, e1, e2]
  · have hz : (cmpK x.key (g, c) == 0) = false := by
      cases q : (cmpK x.key (g, c) == 0) with
      | false => rfl
      | true => exact absurd (h.1 (by simpa using q)) e
    rw [hz]
    cases q : (ofG g x && (x.ch == c)) with
    | false => rfl
    | true =>
      simp only [Bool.and_eq_true, ofG, beq_iff_eq] at q
      exact absurd (Prod.ext (bytes_inj q.1) q.2 : x.key = (g, c)) e
theorem cmp_key (g g' : ByteArray) (c c' : Int) : (cmpK (g', c') (g, c) == 0) = (g'.toList == g.toList && (c' == c)) := cmp_zero_iff ⟨g', c', none, 0, 0, false, 0, []⟩ g c
theorem cnt_core {X Y : List Ep} {g : ByteArray} (c : Int) (h : Y.map Ep.core = (X.filter (ofG g)).map Ep.core) : (Y.filter (fun y => y.ch == c)).length = (X.filter (fun x => cmpK x.key (g, c) == 0)).length := by
  have e1 : ∀ Z : List Ep, (Z.filter (fun y => y.ch == c)).length = ((Z.map Ep.core).filter (fun y => y.ch == c)).length := fun Z => by
    rw [List.filter_map, List.length_map]; rfl
  rw [e1, h, ← e1, List.filter_filter]
  congr 1
  apply List.filter_congr
  intro x _
  rw [cmp_zero_iff, Bool.and_comm]
theorem till_core {X Y : List Ep} {g : ByteArray} {y : Ep} (h : Y.map Ep.core = (X.filter (ofG g)).map Ep.core) (hy : y ∈ Y) : ∃ x ∈ X, x.key = (g, y.ch) ∧ x.till = y.till := by
  have : y.core ∈ (X.filter (ofG g)).map Ep.core := by rw [← h]; exact List.mem_map_of_mem hy
  obtain ⟨x, hx, e⟩ := List.mem_map.1 this
  obtain ⟨h1, h2⟩ := List.mem_filter.1 hx
  have hg : x.gr = g := bytes_inj (by simpa [ofG] using h2)
  exact ⟨x, h1, Prod.ext hg (congrArg Core.ch e), congrArg Core.till e⟩
theorem cnt_take (Y : List Ep) (c : Int) (j : Nat) (hj : j < Y.length) : ((Y.take (j + 1)).filter (fun y => y.ch == c)).length = ((Y.take j).filter (fun y => y.ch == c)).length + if (Y.getD j ep0).ch == c then 1 else 0 := by
  rw [List.take_succ_eq_append_getElem hj, List.filter_append, List.length_append, getD_getElemL ep0 Y j hj]
  by_cases h : Y[j].ch == c
  · simp [h]
  · simp [h]
theorem cnt_le (Y : List Ep) (c : Int) (j : Nat) : ((Y.take j).filter (fun y => y.ch == c)).length ≤ j := Nat.le_trans (List.length_filter_le _ _) (List.length_take_le _ _)
/-- The keys and the ticks. -/
def kfn (t : List Ep) (i : Nat) : ByteArray × Int := (cut (t.getD i ep0).gr 30, (t.getD i ep0).ch)
def tfn (t : List Ep) (i : Nat) : Int := (t.getD i ep0).till
/-- A box somewhere. -/
structure Bx (w : World) (z : Nat) (g : ByteArray) (c : Int) (f : Option Addr) (l p : Nat) (a : Bool) (t : Int) : Prop where
  blk : w.heap[z]? = some (.cells #[.string g, .int .i64 c, .slice f l p, .bool a, .int .i64 t] 32 (0, 0))
theorem Bx.below {w w' : World} {z : Nat} {g : ByteArray} {c : Int} {f : Option Addr} {l p : Nat} {a : Bool} {t : Int} (h : Bx w z g c f l p a t) (hb : Below w.heap.size w w') : Bx w' z g c f l p a t := ⟨(hb.block _ (lt_blk h.blk)).trans h.blk⟩
theorem Bx.cells {w : World} {z : Nat} {g : ByteArray} {c : Int} {f : Option Addr} {l p : Nat} {a : Bool} {t : Int} (h : Bx w z g c f l p a t) :
    w.cell? ⟨z, 0, none⟩ = some (.string g) ∧ w.cell? ⟨z, 1, none⟩ = some (.int .i64 c) ∧ w.cell? ⟨z, 2, none⟩ = some (.slice f l p) ∧ w.cell? ⟨z, 3, none⟩ = some (.bool a) ∧ w.cell? ⟨z, 4, none⟩ = some (.int .i64 t) := by
  have := h.blk
  refine ⟨?_, ?_, ?_, ?_, ?_⟩ <;> simp [World.cell?, this]
/-! ### STEP 1: the walk -/
set_option maxRecDepth 100000 in
set_option maxHeartbeats 20000000 in
theorem walk (a0 : Option Addr) (len0 cap0 : Nat) (t0 : List Ep) (w : World) (w0 : InRow 5 Ep.cells (EpOk w) ep0 w a0 len0 t0) :
    Calls Try.prog 5 #[.slice a0 len0 cap0] w fun e w' => e = .returned (.bool true) ∧ Below w.heap.size w w' := by
  have hmx0 := w0.2.1
  have HX : Hid (InRow 5 Ep.cells (EpOk w) ep0 w a0 len0 t0) := w0
  clear w0
  have H0 : Hid _ := OwnT.new w
  go_enter Try.func5, Try.ntmps5
  go_wp2
  go_loopw [4] (fun y wr => ∃ (i : Nat) (X : List Ep), y = .int .i64 i ∧ i ≤ len0 ∧ i ≤ 30 ∧ Hid (OwnT w.heap.size w wr w.heap.size X ∧ LInv (kfn t0) (tfn t0) i X)) (fun y _ => 30 - (intOf y).toNat)
  case atStart => exact ⟨0, [], rfl, Nat.zero_le _, Nat.zero_le _, (⟨H0.out, LInv.nil _ _⟩ : _ ∧ LInv _ _ _ _)⟩
  case round =>
    obtain ⟨i, X, rfl, hil, hi30, H⟩ := hrel
    clear H0
    by_cases hlt : i < len0 ∧ i < 30
    · obtain ⟨hl1, hl2⟩ := hlt
      have hi0 : (0 : Int) ≤ (i : Int) := Int.natCast_nonneg _
      have hi1 : (i : Int) < (len0 : Int) := by omega
      have hi2 : (i : Int) < 30 := by omega
      obtain ⟨b, o, ha, hb, hok, c0, c1, c2, c3, c4⟩ := ent_at HX.out H.out.1.bel hl1
      subst ha
      have hkf : kfn t0 i = (cut (t0.getD i ep0).gr 30, (t0.getD i ep0).ch) := rfl
      have htf : tfn t0 i = (t0.getD i ep0).till := rfl
      obtain ⟨x, hx⟩ : ∃ x, x = t0.getD i ep0 := ⟨_, rfl⟩
      rw [← hx] at hok c0 c1 c2 c3 c4 hkf htf
      have HKF : Hid _ := hkf
      have HTF : Hid _ := htf
      have HOK : Hid (EpOk w x) := hok
      clear hx hkf htf hok
      have HC : Hid _ := cutIn HOK.out H.out.1.bel
      obtain ⟨gr, ch, fa, fl, fc, any, till, fs⟩ := x
      simp only at c0 c1 c2 c3 c4 HKF HTF HC
      go_wp2_with fail
      refine Calls.mono HC.out ?_
      rintro e w1 ⟨a1, n1, p1, rfl, hs1, hn1, hb1⟩
      have H1 : Hid (OwnT w.heap.size w w1 w.heap.size X ∧ LInv (kfn t0) (tfn t0) i X) := ⟨H.out.1.below hb1, H.out.2⟩
      have HS1 : Hid _ := hs1
      clear hs1 hb1 HC c0 c1 c2 c3 c4
      generalize hcg : cut gr 30 = cg at HKF
      go_wp2_with fail
      refine (H1.out.1.put cg ch a1 n1 p1 any till (cutF fs) HS1.out (by omega) (.inr (by have := H1.out.2.len; omega))).mono ?_
      rintro e w2 ⟨rfl, x2, hx2, hT2, _⟩
      have H2 : Hid (OwnT w.heap.size w w2 w.heap.size (putE X x2) ∧ LInv (kfn t0) (tfn t0) (i + 1) (putE X x2)) := ⟨hT2, H1.out.2.put (ownT_asc H1.out.1) (hx2.1.trans HKF.out.symm) (hx2.2.1.trans HTF.out.symm)⟩
      clear hx2 hT2 H1 HS1
      go_wp2
      go_roundw
      case rel => exact ⟨i + 1, _, by go_num, by omega, by omega, H2⟩
      case measure => simp [intOf]; omega
    · have hor : (True ∧ ¬ (i : Int) < (len0 : Int)) ∨ ((i : Int) < (len0 : Int) ∧ ¬ (i : Int) < 30) := by
        by_cases q : (i : Int) < (len0 : Int)
        · exact .inr ⟨q, by omega⟩
        · exact .inl ⟨trivial, q⟩
      have HI : Hid (∀ j, j < len0 → j < 30 → j < i) := fun j h1 h2 => by omega
      have HI2 : Hid (∀ j, j < i → j < len0 ∧ j < 30) := fun j h1 => by omega
      clear hlt
      go_upto_region 3 with fail
      go_cut [20] (fun v wx => v = .bool false ∧ wr = wx)
      case first =>
        rcases hor with ⟨hor', hor⟩ | ⟨hor', hor⟩
        all_goals
          go_wp2_with fail
          go_meet
          exact ⟨by simp, rfl⟩
      case rest =>
        obtain ⟨rfl, hwx⟩ := hcut
        subst hwx
        clear hor
        have HT : Hid (OwnT w.heap.size w wr w.heap.size X) := H.out.1
        have HL : Hid (LInv (kfn t0) (tfn t0) i X) := H.out.2
        clear H
        rename World => wa
        go_wp2
        go_loopw [5] (fun y wr => ∃ j : Nat, y = .int .i64 j ∧ j ≤ len0 ∧ j ≤ 30 ∧ Hid (OwnT w.heap.size w wr w.heap.size X)) (fun y _ => 30 - (intOf y).toNat)
        case atStart => exact ⟨0, rfl, Nat.zero_le _, Nat.zero_le _, HT⟩
        case round =>
          obtain ⟨j, rfl, hjl, hj30, HJ⟩ := hrel
          clear HT
          rename World => wb
          by_cases hlt : j < len0 ∧ j < 30
          · obtain ⟨hl1, hl2⟩ := hlt
            have hj0 : (0 : Int) ≤ (j : Int) := Int.natCast_nonneg _
            have hj1 : (j : Int) < (len0 : Int) := by omega
            have hj2 : (j : Int) < 30 := by omega
            obtain ⟨b, o, ha, hb, hok, c0, c1, c2, c3, c4⟩ := ent_at HX.out HJ.out.bel hl1
            subst ha
            have hkf : kfn t0 j = (cut (t0.getD j ep0).gr 30, (t0.getD j ep0).ch) := rfl
            have htf : tfn t0 j = (t0.getD j ep0).till := rfl
            obtain ⟨x, hx⟩ : ∃ x, x = t0.getD j ep0 := ⟨_, rfl⟩
            rw [← hx] at hok c0 c1 c2 c3 c4 hkf htf
            have HKF : Hid _ := hkf
            have HTF : Hid _ := htf
            have HC : Hid _ := cutIn hok HJ.out.bel
            clear hx hkf htf hok
            obtain ⟨gr, ch, fa, fl, fc, any, till, fs⟩ := x
            simp only at c0 c1 c2 c3 c4 HKF HTF HC
            go_wp2_with fail
            refine Calls.mono HC.out ?_
            rintro e w1 ⟨a1, n1, p1, rfl, hs1, hn1, hb1⟩
            generalize hcg : cut gr 30 = cg at HKF
            obtain ⟨w6, hw6⟩ : ∃ w6, w6 = w1.alloc (.cells #[.string cg, .int .i64 ch, .slice a1 n1 p1, .bool any, .int .i64 till] 32) := ⟨_, rfl⟩
            have hb6 : Below wb.heap.size wb w6 := by rw [hw6]; exact hb1.alloc hb1.size _
            have H6 : Hid (OwnT w.heap.size w w6 w.heap.size X ∧ Bx w6 w1.heap.size cg ch a1 n1 p1 any till) := ⟨HJ.out.below hb6, ⟨by rw [hw6]; exact heap_alloc_new w1 _⟩⟩
            clear hs1 hn1 hb1 hb6 HC c0 c1 c2 c3 c4 hcg HJ
            go_wp2
            rw [← hw6]
            clear hw6
            obtain ⟨z6, hz6⟩ : ∃ z6, z6 = w1.heap.size := ⟨_, rfl⟩
            rw [← hz6] at H6 ⊢
            clear hz6
            go_loopw [7, 8] (fun x y wr => ∃ k : Nat, y = .int .i64 k ∧ j + 1 ≤ k ∧ k ≤ len0 ∧ k ≤ 30 ∧ x = .bool (lastB (kfn t0) j k) ∧ Hid (OwnT w.heap.size w wr w.heap.size X ∧ Bx wr z6 cg ch a1 n1 p1 any till)) (fun _ y _ => 30 - (intOf y).toNat)
            case atStart => exact ⟨j + 1, by go_num, Nat.le_refl _, by omega, by omega, by rw [lastB_start], H6⟩
            case round =>
              obtain ⟨k, rfl, hjk, hkl, hk30, rfl, H7⟩ := hrel
              clear H6
              rename World => wc
              by_cases hlt : k < len0 ∧ k < 30
              · obtain ⟨hm1, hm2⟩ := hlt
                have hk0 : (0 : Int) ≤ (k : Int) := Int.natCast_nonneg _
                have hk1 : (k : Int) < (len0 : Int) := by omega
                have hk2 : (k : Int) < 30 := by omega
                obtain ⟨b', o', ha', hb', hok', e0, e1, e2, e3, e4⟩ := ent_at HX.out H7.out.1.bel hm1
                simp only [Option.some.injEq, Addr.mk.injEq] at ha'
                obtain ⟨rfl, rfl, _⟩ := ha'
                have hkf' : kfn t0 k = (cut (t0.getD k ep0).gr 30, (t0.getD k ep0).ch) := rfl
                obtain ⟨x, hx⟩ : ∃ x, x = t0.getD k ep0 := ⟨_, rfl⟩
                rw [← hx] at hok' e0 e1 e2 e3 e4 hkf'
                have HKF' : Hid _ := hkf'
                have HC' : Hid _ := cutIn hok' H7.out.1.bel
                clear hx hkf' hok'
                obtain ⟨gr', ch', fa', fl', fc', any', till', fs'⟩ := x
                simp only at e0 e1 e2 e3 e4 HKF' HC'
                go_wp2_with fail
                refine Calls.mono HC'.out ?_
                rintro e w2 ⟨a2, n2, p2, rfl, hs2, hn2, hb2⟩
                generalize hcg' : cut gr' 30 = cg' at HKF'
                obtain ⟨d0, d1, d2, d3, d4⟩ := (H7.out.2.below hb2).cells
                have dl := lt_blk (H7.out.2.below hb2).blk
                have hdn : z6 ≠ w2.heap.size := by omega
                have H9 : Hid (OwnT w.heap.size w (w2.alloc (.cells #[.string cg', .int .i64 ch', .slice a2 n2 p2, .bool any', .int .i64 till'] 32)) w.heap.size X ∧ Bx (w2.alloc (.cells #[.string cg', .int .i64 ch', .slice a2 n2 p2, .bool any', .int .i64 till'] 32)) z6 cg ch a1 n1 p1 any till) := ⟨(H7.out.1.below hb2).below ((Below.refl _ _).alloc (Nat.le_refl _) _), (H7.out.2.below hb2).below ((Below.refl _ _).alloc (Nat.le_refl _) _)⟩
                have HSU := lastB_succ (kfn t0) j k (by omega)
                rw [HKF'.out, HKF.out, cmp_key] at HSU
                have HSU : Hid _ := HSU
                clear hs2 hn2 hb2 HC' e0 e1 e2 e3 e4 hcg' H7
                obtain ⟨lst, hlst⟩ : ∃ lst, lst = lastB (kfn t0) j k := ⟨_, rfl⟩
                rw [← hlst] at HSU ⊢
                clear hlst
                cases lst with
                | false =>
                  go_wp2
                  go_roundw
                  case rel => exact ⟨k + 1, by go_num, by omega, by omega, by omega, by rw [HSU.out]; simp, H9⟩
                  case measure => simp [intOf]; omega
                | true =>
                  by_cases hgg : cg'.toList = cg.toList
                  · have hgg' : (cg'.toList == cg.toList) = true := by simpa using hgg
                    by_cases hcc : ch' = ch
                    · have hcc' : (ch' == ch) = true := by simpa using hcc
                      rw [hgg', hcc'] at HSU
                      have hcn : (ch' != ch) = false := by simpa using hcc
                      have hgn : (cg'.toList != cg.toList) = false := by simpa using hgg
                      clear hcc hgg
                      go_wp2
                      go_roundw
                      case rel => exact ⟨k + 1, by go_num, by omega, by omega, by omega, by rw [HSU.out]; simp, H9⟩
                      case measure => simp [intOf]; omega
                    · have hcc' : (ch' == ch) = false := by simpa using hcc
                      rw [hgg', hcc'] at HSU
                      have hcn : (ch' != ch) = true := by simpa using hcc
                      have hgn : (cg'.toList != cg.toList) = false := by simpa using hgg
                      clear hgg
                      go_wp2
                      go_roundw
                      case rel => exact ⟨k + 1, by go_num, by omega, by omega, by omega, by rw [HSU.out]; simp, H9⟩
                      case measure => simp [intOf]; omega
                  · have hgg' : (cg'.toList == cg.toList) = false := by simpa using hgg
                    rw [hgg'] at HSU
                    have hgn : (cg'.toList != cg.toList) = true := by simpa using hgg
                    go_wp2
                    go_roundw
                    case rel => exact ⟨k + 1, by go_num, by omega, by omega, by omega, by rw [HSU.out]; simp, H9⟩
                    case measure => simp [intOf]; omega
              · have hor : (True ∧ ¬ (k : Int) < (len0 : Int)) ∨ ((k : Int) < (len0 : Int) ∧ ¬ (k : Int) < 30) := by
                  by_cases q : (k : Int) < (len0 : Int)
                  · exact .inr ⟨q, by omega⟩
                  · exact .inl ⟨trivial, q⟩
                have HLast : Hid (lastB (kfn t0) j k = true → ∀ x ∈ X, x.key = kfn t0 j → x.till = tfn t0 j) := fun hl x hx hkx => by
                  obtain ⟨m, hm, e1, e2, e3⟩ := HL.out.each x hx
                  have hjm : m = j := by
                    rcases Nat.lt_trichotomy m j with q | q | q
                    · exact absurd (e1.symm.trans hkx).symm (e3 j q (HI.out j hl1 hl2))
                    · exact q
                    · have := HI2.out m hm
                      exact absurd (e1.symm.trans hkx) (lastB_iff hl m q (by omega))
                  rw [e2, hjm]
                have HOne : Hid ((X.filter (fun x => cmpK x.key (cg, ch) == 0)).length = 1) := by
                  show _ = _
                  obtain ⟨x, hx, hkx⟩ := HL.out.all j (HI.out j hl1 hl2)
                  rw [← HKF.out, ← hkx]
                  exact one_key (ownT_asc H7.out.1) hx
                clear hlt
                go_upto_region 13 with fail
                go_cut [54] (fun v wx => v = .bool false ∧ wc = wx)
                case first =>
                  rcases hor with ⟨hor', hor⟩ | ⟨hor', hor⟩
                  all_goals
                    go_wp2_with fail
                    go_meet
                    exact ⟨by simp, rfl⟩
                case rest =>
                  obtain ⟨rfl, hwx⟩ := hcut
                  subst hwx
                  clear hor
                  obtain ⟨lst, hlst⟩ : ∃ lst, lst = lastB (kfn t0) j k := ⟨_, rfl⟩
                  rw [← hlst] at HLast ⊢
                  clear hlst
                  obtain ⟨d0, d1, d2, d3, d4⟩ := H7.out.2.cells
                  have dl := lt_blk H7.out.2.blk
                  go_wp2_with fail
                  refine (H7.out.1.children cg).mono ?_
                  rintro e w4 ⟨aY, cY, Y, rfl, hE, hb4, hY⟩
                  have H8 : Hid (OwnT w.heap.size w w4 w.heap.size X ∧ Bx w4 z6 cg ch a1 n1 p1 any till ∧ EntIn w4 aY Y.length Y) := ⟨H7.out.1.below hb4, H7.out.2.below hb4, hE⟩
                  have hm4 : Y.length ≤ 100000 := hE.2.1
                  obtain ⟨m, hm⟩ : ∃ m, m = Y.length := ⟨_, rfl⟩
                  rw [← hm] at H8 hm4 ⊢
                  have HM : Hid (m = Y.length) := hm
                  have HYc : Hid ((Y.filter (fun y => y.ch == ch)).length = 1) := by show _ = _; rw [cnt_core ch hY]; exact HOne.out
                  have HYt : Hid (∀ y ∈ Y, y.ch = ch → lst = true → y.till = till) := fun y hy hch hl => by
                    obtain ⟨x, hx, hkx, htx⟩ := till_core hY hy
                    rw [hch] at hkx
                    have := HLast.out hl x hx (by rw [hkx, HKF.out])
                    rw [← htx, this, HTF.out]
                  clear hm hE hb4 hY HOne HLast H7 d0 d1 d2 d3 d4 dl
                  go_wp2
                  go_loopw [10, 81] (fun x y wr => ∃ q : Nat, y = .int .i64 q ∧ q ≤ m ∧ x = .int .i64 ((Y.take q).filter (fun y => y.ch == ch)).length ∧ Hid (OwnT w.heap.size w wr w.heap.size X ∧ Bx wr z6 cg ch a1 n1 p1 any till ∧ EntIn wr aY m Y)) (fun _ y _ => m - (intOf y).toNat)
                  case atStart => exact ⟨0, rfl, Nat.zero_le _, rfl, H8⟩
                  case round =>
                    obtain ⟨q, rfl, hqm, rfl, H9⟩ := hrel
                    clear H8
                    rename World => wd
                    by_cases hq : q < m
                    · have hq0 : (0 : Int) ≤ (q : Int) := Int.natCast_nonneg _
                      have hq1 : (q : Int) < (m : Int) := by omega
                      obtain ⟨b', o', ha', hb', _, _, e0, e1, e2, e3, e4⟩ := H9.out.2.2.at hq
                      subst ha'
                      have hct := cnt_take Y ch q (by rw [← HM.out]; exact hq)
                      have hcl := cnt_le Y ch q
                      have hym : Y.getD q ep0 ∈ Y := getD_memL ep0 Y q (by rw [← HM.out]; exact hq)
                      obtain ⟨y, hy⟩ : ∃ y, y = Y.getD q ep0 := ⟨_, rfl⟩
                      rw [← hy] at e0 e1 e2 e3 e4 hct hym
                      clear hy
                      have hyt := HYt.out y hym
                      obtain ⟨gr', ch', fa', fl', fc', any', till', fs'⟩ := y
                      simp only at e0 e1 e2 e3 e4 hct hyt
                      obtain ⟨d0, d1, d2, d3, d4⟩ := H9.out.2.1.cells
                      have dl := lt_blk H9.out.2.1.blk
                      have hdn : z6 ≠ wd.heap.size := by omega
                      have H10 : Hid (OwnT w.heap.size w (wd.alloc (.cells #[.string gr', .int .i64 ch', .slice fa' fl' fc', .bool any', .int .i64 till'] 32)) w.heap.size X ∧ Bx (wd.alloc (.cells #[.string gr', .int .i64 ch', .slice fa' fl' fc', .bool any', .int .i64 till'] 32)) z6 cg ch a1 n1 p1 any till ∧ EntIn (wd.alloc (.cells #[.string gr', .int .i64 ch', .slice fa' fl' fc', .bool any', .int .i64 till'] 32)) (some ⟨b', o', none⟩) m Y) := ⟨H9.out.1.below ((Below.refl _ _).alloc (Nat.le_refl _) _), H9.out.2.1.below ((Below.refl _ _).alloc (Nat.le_refl _) _), H9.out.2.2.below ((Below.refl _ _).alloc (Nat.le_refl _) _)⟩
                      obtain ⟨cn, hcn⟩ : ∃ cn, cn = ((Y.take q).filter (fun y => y.ch == ch)).length := ⟨_, rfl⟩
                      rw [← hcn] at hct hcl ⊢
                      clear hcn H9 hym
                      by_cases hcc : ch' = ch
                      · have HT2 : Hid (((Y.take (q + 1)).filter (fun y => y.ch == ch)).length = cn + 1) := by show _ = _; rw [hct]; simp [hcc]
                        subst hcc
                        clear hct
                        cases lst with
                        | false =>
                          clear hyt
                          go_wp2
                          go_roundw
                          case rel => exact ⟨q + 1, by go_num, by omega, by rw [HT2.out]; go_num, H10⟩
                          case measure => simp [intOf]; omega
                        | true =>
                          have htt := hyt rfl rfl
                          subst htt
                          clear hyt
                          go_wp2
                          go_roundw
                          case rel => exact ⟨q + 1, by go_num, by omega, by rw [HT2.out]; go_num, H10⟩
                          case measure => simp [intOf]; omega
                      · have hcc' : (ch' == ch) = false := by simpa using hcc
                        have HT2 : Hid (((Y.take (q + 1)).filter (fun y => y.ch == ch)).length = cn) := by show _ = _; rw [hct]; simp [hcc]
                        clear hct hyt
                        go_wp2
                        go_roundw
                        case rel => exact ⟨q + 1, by go_num, by omega, by rw [HT2.out], H10⟩
                        case measure => simp [intOf]; omega
                    · have hq1 : ¬ (q : Int) < (m : Int) := by omega
                      have h1 : ((Y.take q).filter (fun y => y.ch == ch)).length = 1 := by rw [List.take_of_length_le (by rw [← HM.out]; omega)]; exact HYc.out
                      rw [h1]
                      clear h1
                      have H10 : Hid (OwnT w.heap.size w wd w.heap.size X) := H9.out.1
                      clear H9
                      go_wp2
                      go_roundw
                      case rel => exact ⟨j + 1, by go_num, by omega, by omega, H10⟩
                      case measure => simp [intOf]; omega
          · have hor : (True ∧ ¬ (j : Int) < (len0 : Int)) ∨ ((j : Int) < (len0 : Int) ∧ ¬ (j : Int) < 30) := by
              by_cases q : (j : Int) < (len0 : Int)
              · exact .inr ⟨q, by omega⟩
              · exact .inl ⟨trivial, q⟩
            clear hlt
            rcases hor with ⟨hor', hor⟩ | ⟨hor', hor⟩
            all_goals
              go_wp2_with (go_at_call 14; refine (awake13_any _).mono ?_; rintro e w8 ⟨rfl, hb8⟩; have H8 : Hid _ := HJ.out.below hb8; clear hb8)
              go_ret
              exact ⟨rfl, H8.out.bel⟩

/-! ### The row's step -/
set_option maxRecDepth 100000 in
theorem lifted (os : Os) (started : os.Started) (H : Type) (enc : TypeId × Value → H) :
    ReturnsInHanded {} Try.checked os 5 .any (Rows.tableLastSpec.pre6 enc Try.prog Try.f5 Rows.tableLastRow.domain false) (Rows.tableLastSpec.post enc Try.prog Try.f5 false true false false) := by
  refine returnsInHanded_of_change (C := Try.checked) own started (by kernel_rfl) Try.func5
    (ChangeSpec.witness6 (enc := enc) (C := Try.checked) false ⟨#[], #[.slice none 0 0], []⟩ 8 (by kernel_rfl) (by kernel_rfl) (by kernel_rfl) (by kernel_rfl)) ?_
  intro W base args ds gs before hval0 hW hcnd _
  have hval : ∀ (j : Nat) t v, Try.f5.params[j]? = some t → args[j]? = some v → Value.okWide Try.prog W .any base t v := hval0
  have hW' := hW
  obtain ⟨p, q, hA0, hV, rfl, hfz, hnd⟩ := hW
  have hA : DataW.TrodAll enc Try.prog W 0 (fun _ => true) true Try.f5.params.toList args.toList ds p := hA0
  rw [Try.params5] at hA hval
  obtain ⟨v0, vs0, d0, ds0, p0, q0, hargs, rfl, rfl, h0, r0⟩ := trodAll_cons hA
  obtain ⟨rfl, rfl, rfl⟩ := trodAll_nil r0
  obtain rfl : args = #[v0] := by cases args; simp_all
  obtain ⟨rfl, rfl⟩ := trodVars_none hV
  obtain ⟨a0, len0, cap0, rfl⟩ := okWide_slice Try.underlying22 (hval 0 22 v0 rfl rfl)
  have k0 := h0
  have lt0 : ∀ x ∈ p0, x.block < W.heap.size := by obtain ⟨m, hm⟩ := k0; exact DataW.trod_lt m _ _ _ hm
  obtain ⟨t0, w0⟩ : ∃ ts, InRow 5 Ep.cells (EpOk W) ep0 W a0 len0 ts := by
    obtain ⟨fuel, hf⟩ := h0
    exact inrow_of 5 Ep.cells (EpOk W) ep0 22 32 Try.underlying22 cellsEnt (by omega) Ep.cells_len (fun n cs x => ent_of n cs x) hf
  clear hA0 hval0
  refine (walk a0 len0 cap0 t0 W w0).mono fun e W' ⟨he, bel⟩ => ?_
  subst he
  exact ⟨_, rfl, _, _, _, [], _, [], hW', trodAll_mk1 (shut_bool Try.underlying4 _), (trodAll_cons_mk (Below.trod laidOut (by kernel_rfl) (of_decide_eq_true (by kernel_rfl)) k0 bel lt0) trodAll_mk0), rfl, bel.frame _, fun h => by cases h⟩

theorem over : Rows.tableLastRow.holds Try.pinned (OpenSpec.ofChange Rows.tableLastSpec) :=
  OpenClaim.holds_of_wide 5 Try.f5 rfl rfl rfl rfl rfl rfl rfl ⟨rfl, rfl, rfl, rfl, rfl⟩ rfl rfl rfl rfl rfl (by kernel_rfl) Try.func5 (by kernel_rfl)
    (of_decide_eq_true (by kernel_rfl)) (by unfold Func.isWrapper; first | (rw [if_pos (by decide +kernel)]; kernel_rfl) | (rw [if_neg (by decide +kernel)]; exact ⟨rfl, rfl⟩))
    (fun os started H enc _ => lifted os started H enc)

end Go.Proofs.Ytmnlbheicedloaa.tableLast

namespace Go.Proofs.Ytmnlbheicedloaa
/-- Proved: for every list of entries, TableLast answers true (what was put last of a group and a child is what is there; of at most 30 entries). -/
theorem tableLast_holds : Rows.TableLastSaid := tableLast.over
#print axioms tableLast_holds
end Go.Proofs.Ytmnlbheicedloaa
