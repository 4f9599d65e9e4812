/- filter.printPred, filter.Print. -/
import Derived.Test.YtcckoncgfmbhiaaGreatDoorFilPrt
import Derived.Test.YtcckoncgfmbhiaaGreatDoorShelf
import Derived.Lib.Join
namespace Go.Proofs.YtcckoncgfmbhiaaGreatDoor
open Go.ChangeShapes Go.WideShapes Go.ChangeAt Go.RowKit
set_option linter.unusedVariables false

theorem itoaF (n : Int) (w : World) (E : Env w) (h1 : -9999999999 ≤ n) (h2 : n ≤ 9999999999) : Calls Tryz.prog 55 #[.int .i64 n] w fun e w' => e = .returned (.string (ba (Lib.itoa n))) ∧ Below w.heap.size w w' := by
  refine (Tryz.strconv_Itoa n (by omega) (by omega) w E.tab).mono ?_
  rintro e w' ⟨rfl, k, os, rfl⟩
  exact ⟨rfl, grow_below _ _ _⟩
theorem itoa_len11 (v : Int) (h1 : -9999999999 ≤ v) (h2 : v ≤ 9999999999) : (Lib.itoa v).length ≤ 11 := by
  by_cases hneg : v < 0
  · obtain ⟨u, rfl⟩ : ∃ u : Nat, v = -(u : Int) := ⟨v.natAbs, by omega⟩
    rw [Lib.itoa_neg u (by omega)]
    have := decD_len10 u (by omega)
    simp; omega
  · obtain ⟨u, rfl⟩ : ∃ u : Nat, v = (u : Int) := ⟨v.toNat, by omega⟩
    rw [Lib.itoa_nonneg]
    have := decD_len10 u (by omega)
    omega
set_option maxRecDepth 100000 in
set_option maxHeartbeats 1000000 in
theorem ppred_in (nm st : List UInt8) (lo hi : Int) (w : World) (E : Env w) (h1 : -9999999999 ≤ lo) (h2 : lo ≤ 9999999999) (h3 : -9999999999 ≤ hi) (h4 : hi ≤ 9999999999) (hn : nm.length ≤ 1000) :
    Calls Tryz.prog 31 #[.agg #[.string (ba nm), .int .i64 1, .int .i64 lo, .int .i64 hi, .string (ba st)]] w fun e w' => e = .returned (.string (ba (pP ⟨nm, 1, lo, hi, st⟩))) ∧ Below w.heap.size w w' := by
  have HP : Hid (ba (pP ⟨nm, 1, lo, hi, st⟩) = ba nm ++ ⟨#[32]⟩ ++ ⟨#[105, 110]⟩ ++ ⟨#[32]⟩ ++ ba (Lib.itoa lo) ++ ⟨#[46, 46]⟩ ++ ba (Lib.itoa hi)) := by
    show ba (pP ⟨nm, 1, lo, hi, st⟩) = _
    have e : pP ⟨nm, 1, lo, hi, st⟩ = nm ++ [32, 105, 110, 32] ++ Lib.itoa lo ++ [46, 46] ++ Lib.itoa hi := if_pos rfl
    rw [e]
    apply ByteArray.ext
    simp [ba]
  have sn : (ba nm).size ≤ 1000 := by rw [ba_size]; exact hn
  have s1 : (ba (Lib.itoa lo)).size ≤ 11 := by rw [ba_size]; exact itoa_len11 lo h1 h2
  have s2 : (ba (Lib.itoa hi)).size ≤ 11 := by rw [ba_size]; exact itoa_len11 hi h3 h4
  obtain ⟨W0, hW0⟩ : ∃ W0, W0 = w.alloc (.cells #[.string (ba nm), .int .i64 1, .int .i64 lo, .int .i64 hi, .string (ba st)] 74) := ⟨_, rfl⟩
  have hbw : Below w.heap.size w W0 := by rw [hW0]; exact pbel1 _ _
  have hz : W0.heap[w.heap.size]? = some (.cells #[.string (ba nm), .int .i64 1, .int .i64 lo, .int .i64 hi, .string (ba st)] 74 (0, 0)) := by rw [hW0]; exact heap_alloc_new w _
  obtain ⟨g0, g1, g2, g3, g4, gf⟩ := five hz
  obtain ⟨ι, F, _, hF0, hFb, hFc⟩ := grown_fam W0
  have F0 : ∀ i, (F i).cell? ⟨w.heap.size, 0, none⟩ = some (.string (ba nm)) := fun i => cell_grown g0 (hFb i)
  have F2 : ∀ i, (F i).cell? ⟨w.heap.size, 2, none⟩ = some (.int .i64 lo) := fun i => cell_grown g2 (hFb i)
  have F3 : ∀ i, (F i).cell? ⟨w.heap.size, 3, none⟩ = some (.int .i64 hi) := fun i => cell_grown g3 (hFb i)
  have HF : Hid ((∃ i, { W0 with drawn := W0.drawn + 1 } = F i) ∧ (∀ i, Below W0.heap.size W0 (F i)) ∧ (∀ i W, Below W0.heap.size (F i) W → ∃ j, W = F j)) := ⟨hF0, hFb, hFc⟩
  have HB0 : Hid (Below w.heap.size w W0) := hbw
  have E0 : ∀ i, Env (F i) := fun i => (E.below hbw E.lt).below (hFb i) (Nat.le_trans E.lt hbw.size)
  have HC1 : Hid (∀ i, Calls Tryz.prog 55 #[.int .i64 lo] (F i) fun e w' => e = .returned (.string (ba (Lib.itoa lo))) ∧ Below (F i).heap.size (F i) w') := fun i => itoaF lo _ (E0 i) h1 h2
  have HC2 : Hid (∀ i, Calls Tryz.prog 55 #[.int .i64 hi] (F i) fun e w' => e = .returned (.string (ba (Lib.itoa hi))) ∧ Below (F i).heap.size (F i) w') := fun i => itoaF hi _ (E0 i) h3 h4
  clear hF0 hFb hFc hbw hz g0 g2 g3 g4 gf E E0 h1 h2 h3 h4 hn
  generalize ba (pP ⟨nm, 1, lo, hi, st⟩) = res at *
  generalize ba (Lib.itoa lo) = d1 at *
  generalize ba (Lib.itoa hi) = d2 at *
  generalize ba nm = a at *
  go_enter Tryz.func31, Tryz.ntmps31
  go_wp2_with fail
  rw [← hW0]
  refine wp_region_fam F HF.out.1 (by kernel_rfl) (by kernel_rfl) ?_
  repeat (go_big_quiet_step (first
    | (go_at_call_of 55 (Value.int .i64 lo); refine Calls.mono (HC1.out _) ?_; rintro e' w' ⟨hs, hb⟩; exact ⟨hs, HF.out.2.2 _ _ (hb.mono (HF.out.2.1 _).size)⟩)
    | (go_at_call_of 55 (Value.int .i64 hi); refine Calls.mono (HC2.out _) ?_; rintro e' w' ⟨hs, hb⟩; exact ⟨hs, HF.out.2.2 _ _ (hb.mono (HF.out.2.1 _).size)⟩)))
  refine wpQuiet_nil ?_
  rintro _ ⟨i, rfl⟩
  have BF := HB0.out.trans ((HF.out.2.1 i).mono HB0.out.size)
  go_wp2
  go_ret
  exact ⟨by rw [HP.out]; rfl, BF⟩
theorem quoted_of (st : List UInt8) (w : World) (h : st.length ≤ 1000) : Calls Tryz.prog 56 #[.string (ba st)] w fun e w' => e = .returned (.string (ba (34 :: (qL st ++ [34])))) ∧ Below w.heap.size w w' := by
  have := quoted_any (ba st) w (by rw [ba_size]; exact h)
  rw [ba_list] at this
  exact this
theorem qq_size (st : List UInt8) (h : st.length ≤ 1000) : (ba (34 :: (qL st ++ [34]))).size ≤ 2002 := by
  rw [ba_size]; have := qL_len st; simp; omega
set_option maxRecDepth 100000 in
set_option maxHeartbeats 1000000 in
theorem ppred_st (nm st : List UInt8) (op lo hi : Int) (w : World) (ho : op = 2 ∨ op = 3) (hn : nm.length ≤ 1000) (hs : st.length ≤ 1000) :
    Calls Tryz.prog 31 #[.agg #[.string (ba nm), .int .i64 op, .int .i64 lo, .int .i64 hi, .string (ba st)]] w fun e w' => e = .returned (.string (ba (pP ⟨nm, op, lo, hi, st⟩))) ∧ Below w.heap.size w w' := by
  have HP : Hid (ba (pP ⟨nm, op, lo, hi, st⟩) = ba nm ++ ⟨#[32]⟩ ++ (if op = 3 then ⟨#[94, 61]⟩ else ⟨#[61]⟩) ++ ⟨#[32]⟩ ++ ba (34 :: (qL st ++ [34]))) := by
    show ba (pP ⟨nm, op, lo, hi, st⟩) = _
    unfold pP
    simp only
    rw [if_neg (by omega)]
    by_cases h3 : op = 3
    · rw [if_pos h3, if_pos h3]
      apply ByteArray.ext
      simp [ba]
    · rw [if_neg h3, if_neg h3]
      apply ByteArray.ext
      simp [ba]
  have sn : (ba nm).size ≤ 1000 := by rw [ba_size]; exact hn
  have s1 := qq_size st hs
  obtain ⟨W0, hW0⟩ : ∃ W0, W0 = w.alloc (.cells #[.string (ba nm), .int .i64 op, .int .i64 lo, .int .i64 hi, .string (ba st)] 74) := ⟨_, rfl⟩
  have hbw : Below w.heap.size w W0 := by rw [hW0]; exact pbel1 _ _
  have hz : W0.heap[w.heap.size]? = some (.cells #[.string (ba nm), .int .i64 op, .int .i64 lo, .int .i64 hi, .string (ba st)] 74 (0, 0)) := by rw [hW0]; exact heap_alloc_new w _
  obtain ⟨g0, g1, g2, g3, g4, gf⟩ := five hz
  obtain ⟨ι, F, _, hF0, hFb, hFc⟩ := grown_fam W0
  have F0 : ∀ i, (F i).cell? ⟨w.heap.size, 0, none⟩ = some (.string (ba nm)) := fun i => cell_grown g0 (hFb i)
  have F4 : ∀ i, (F i).cell? ⟨w.heap.size, 4, none⟩ = some (.string (ba st)) := fun i => cell_grown g4 (hFb i)
  have HF : Hid ((∃ i, { W0 with drawn := W0.drawn + 1 } = F i) ∧ (∀ i, Below W0.heap.size W0 (F i)) ∧ (∀ i W, Below W0.heap.size (F i) W → ∃ j, W = F j)) := ⟨hF0, hFb, hFc⟩
  have HB0 : Hid (Below w.heap.size w W0) := hbw
  have HC1 : Hid (∀ i, Calls Tryz.prog 56 #[.string (ba st)] (F i) fun e w' => e = .returned (.string (ba (34 :: (qL st ++ [34])))) ∧ Below (F i).heap.size (F i) w') := fun i => quoted_of st _ hs
  clear hF0 hFb hFc hbw hz g0 g2 g3 g4 gf hn hs
  generalize ba (pP ⟨nm, op, lo, hi, st⟩) = res at *
  generalize ba (34 :: (qL st ++ [34])) = d1 at *
  generalize ba st = q at *
  generalize ba nm = a at *
  rcases ho with rfl | rfl
  all_goals
    go_enter Tryz.func31, Tryz.ntmps31
    go_wp2_with fail
    rw [← hW0]
    refine wp_region_fam F HF.out.1 (by kernel_rfl) (by kernel_rfl) ?_
    repeat (go_big_quiet_step ((go_at_call 56; refine Calls.mono (HC1.out _) ?_; rintro e' w' ⟨hs, hb⟩; exact ⟨hs, HF.out.2.2 _ _ (hb.mono (HF.out.2.1 _).size)⟩)))
    refine wpQuiet_nil ?_
    rintro _ ⟨i, rfl⟩
    have BF := HB0.out.trans ((HF.out.2.1 i).mono HB0.out.size)
    go_wp2
    go_ret
    exact ⟨by rw [HP.out]; rfl, BF⟩
/-- What can be printed, and isn't too long. -/
structure PrnL (p : Pl) : Prop where
  prn : Prn p
  nl : p.name.length ≤ 1000
  sl : p.str.length ≤ 1000
theorem ppred_any (p : Pl) (w : World) (E : Env w) (h : PrnL p) :
    Calls Tryz.prog 31 #[.agg #[.string (ba p.name), .int .i64 p.op, .int .i64 p.lo, .int .i64 p.hi, .string (ba p.str)]] w fun e w' => e = .returned (.string (ba (pP p))) ∧ Below w.heap.size w w' := by
  obtain ⟨nm, op, lo, hi, st⟩ := p
  obtain ⟨⟨_, _, hc⟩, h1, h2⟩ := h
  simp only at hc h1 h2 ⊢
  rcases hc with ⟨rfl, a1, a2, a3, a4, _⟩ | ⟨ho, _⟩
  · exact ppred_in nm st lo hi w E a1 a2 a3 a4 h1
  · exact ppred_st nm st op lo hi w ho h1 h2
theorem pP_len (p : Pl) (h : PrnL p) : (pP p).length ≤ 3100 := by
  obtain ⟨nm, op, lo, hi, st⟩ := p
  obtain ⟨⟨_, _, hc⟩, h1, h2⟩ := h
  simp only at hc h1 h2
  have hq := qL_len st
  unfold pP
  simp only
  rcases hc with ⟨rfl, a1, a2, a3, a4, _⟩ | ⟨ho, _⟩
  · rw [if_pos rfl]
    have := itoa_len11 lo a1 a2
    have := itoa_len11 hi a3 a4
    simp; omega
  · rw [if_neg (by omega)]
    split <;> simp <;> omega
theorem join_pF : ∀ ps : List Pl, Lib.join (ps.map pP) [32, 97, 110, 100, 32] = pF ps
  | [] => rfl
  | [p] => by rw [List.map_cons, List.map_nil, Lib.join_one]; rfl
  | p :: q :: ps => by
    have ih := join_pF (q :: ps)
    rw [List.map_cons, Lib.join_cons, List.map_cons]
    rw [List.map_cons, Lib.join_cons] at ih
    show pP p ++ Lib.joinTail [32, 97, 110, 100, 32] (pP q :: ps.map pP) = pP p ++ 32 :: 97 :: 110 :: 100 :: 32 :: pF (q :: ps)
    rw [← ih]
    unfold Lib.joinTail
    simp
theorem pF_le : ∀ (ps : List Pl), (∀ p ∈ ps, PrnL p) → (pF ps).length ≤ 3200 * ps.length
  | [], _ => by simp [pF]
  | [p], h => by unfold pF; have := pP_len p (h p (by simp)); simp; omega
  | p :: q :: ps, h => by
    have ih := pF_le (q :: ps) (fun x hx => h x (by simp [hx]))
    have := pP_len p (h p (by simp))
    unfold pF
    simp at ih ⊢; omega
theorem Tryz.infoStr : (Tryz.prog.info? 9).map (fun i => (i.zero, i.size, i.bytes)) = some (some (.string ByteArray.empty), 1, 16) := by kernel_rfl
def cellP (p : Pl) : Value := .string (ba (pP p))

set_option maxRecDepth 100000 in
set_option maxHeartbeats 2000000 in
theorem print_any (v : Value) (ps : List Pl) (w : World) (E : Env w) (h : PlIn w v ps) (h0 : ps ≠ []) (hl : ps.length ≤ 100) (hp : ∀ p ∈ ps, PrnL p) :
    Calls Tryz.prog 13 #[v] w fun e w' => e = .returned (.string (ba (pF ps))) ∧ Below w.heap.size w w' := by
  obtain ⟨i0, hi, hz0, hz1, hz2⟩ := info_parts Tryz.infoStr
  obtain ⟨a, c, hv, _⟩ := h.shape
  subst hv
  have HI : Hid (PlIn w (.slice a ps.length c) ps) := h
  have HS : Hid (OwRow 9 w w (.slice none 0 0) ((ps.take 0).map cellP)) := by
    rw [List.take_zero]; exact OwRow.nil _ _ _ (Below.refl _ _)
  have HP : Hid (∀ p ∈ ps, PrnL p) := hp
  have HE : Hid (Env w) := E
  have HNE : Hid (ps ≠ []) := h0
  clear h hp E h0
  go_enter Tryz.func13, Tryz.ntmps13
  go_wp2
  go_loopg [3, 8] ps.length (fun kx s3 s8 wr => ∃ i : Nat, s8 = .int .i64 i ∧ i ≤ ps.length ∧ kx = ps.length - i ∧ (∃ a1 c1, s3 = .slice a1 i c1) ∧ Hid (OwRow 9 w wr s3 ((ps.take i).map cellP)))
  case atStart => exact ⟨0, rfl, Nat.zero_le _, rfl, ⟨_, _, rfl⟩, HS⟩
  case round =>
    obtain ⟨i, rfl, h1, hkg, ⟨a1, c1, rfl⟩, R⟩ := hrel
    by_cases hl' : i < ps.length
    · obtain ⟨g, ha, hg, k0, k1, k2, k3, k4⟩ := (HI.out.below R.out.bel).row i hl'
      subst ha
      have hgd : ps.getD i pl0 = ps[i] := by simp [hl']
      have HPI : Hid (PrnL (ps.getD i pl0)) := by rw [Hid, hgd]; exact HP.out _ (List.getElem_mem hl')
      have SN : Hid ((ps.take (i + 1)).map cellP = (ps.take i).map cellP ++ [cellP (ps.getD i pl0)]) := by
        rw [Hid, hgd, List.take_succ_eq_append_getElem hl', List.map_append]; rfl
      have HL : Hid (((ps.take i).map cellP).length = i) := by rw [Hid, List.length_map, List.length_take]; omega
      have hle := R.out.le
      clear hgd
      generalize ps.getD i pl0 = x at k0 k1 k2 k3 k4 SN HPI
      have HPP : Hid _ := fun W (E : Env W) => ppred_any x W E HPI.out
      have HEW : Hid (Env (wr.alloc (.cells #[.string (ba x.name), .int .i64 x.op, .int .i64 x.lo, .int .i64 x.hi, .string (ba x.str)] 74))) := (HE.out.below R.out.bel HE.out.lt).below (pbel1 _ _) (Nat.le_trans HE.out.lt R.out.le)
      have HCP : Hid (cellP x = .string (ba (pP x))) := (rfl : cellP x = .string (ba (pP x)))
      generalize ba (pP x) = t at HPP HCP
      generalize (ps.take i).map cellP = ss at *
      go_wp2_with fail
      refine Calls.mono (HPP.out _ HEW.out) ?_
      rintro e W1 ⟨rfl, b1⟩
      have R1 : Hid (OwRow 9 w W1 (.slice a1 i c1) ss) := (R.out.carry (pbel1 _ _)).carry b1
      have hle1 := R1.out.le
      have HR : Hid (W1.ownsRow w.heap.size 9 1 (.slice a1 i c1) i ss) := by
        have := R1.out.row; rw [HL.out] at this; exact this
      clear b1 k0 k1 k2 k3 k4
      go_wp2_with (at_builtin; refine wpList_own_append _ rfl _ _ 82 82 rfl w.heap.size 9 i0 _ 16 Tryz.underlying82 hi hz0 hz1 hz2 rfl _ i ss rfl (own_carryP HR.out (pbel1 _ _)) _ 1 [.string t] rfl (src_Tx W1 t _ rfl) ?c3 ?c4 ?c5 ?_)
      case c3 => unfold maxLen; omega
      case c4 => omega
      case c5 => simp; omega
      intro v' W2 hap
      obtain ⟨a', cp', hv⟩ := hap.shape
      subst hv
      have HST : Hid (OwRow 9 w W2 (.slice a' (i + 1) cp') ((ps.take (i + 1)).map cellP)) := by
        show OwRow _ _ _ _ _
        rw [SN.out, HCP.out]
        exact (R1.out.carry (pbel1 _ _)).step (ys := [.string t]) (by rw [HL.out]; exact hap)
      clear hap
      go_wp2
      go_roundg (ps.length - (i + 1))
      case measure => omega
      case rel => exact ⟨i + 1, by go_num, by omega, rfl, ⟨_, _, rfl⟩, HST⟩
    · obtain rfl : i = ps.length := by omega
      have HR : Hid (OwRow 9 w wr (.slice a1 ps.length c1) (ps.map cellP)) := by
        have := R.out; rw [List.take_length] at this; exact this
      have hpos : 0 < ps.length := List.length_pos_iff.2 HNE.out
      obtain ⟨g, hag, hgl, hcap, hcells⟩ : ∃ g, a1 = some ⟨g, 0, none⟩ ∧ g < wr.heap.size ∧ ps.length ≤ c1 ∧ ∀ (j : Nat) x, (ps.map fun p => ba (pP p))[j]? = some x → wr.cell? ⟨g, 0 + j, none⟩ = some (.string x) := by
        have hrow := HR.out.row
        rcases hrow.2 with ⟨hv, h1⟩ | ⟨g, cap, cur, hv, hbg, hg, hnc, _⟩
        · rw [List.length_map] at h1; omega
        · have hcl := hrow.cells (g := g) (by rw [hv]; rfl)
          rw [List.length_map] at hv hnc
          simp at hv
          obtain ⟨rfl, rfl⟩ := hv
          refine ⟨g, rfl, lt_of_block hg, hnc, fun j x hx => ?_⟩
          have hx2 : (ps.map cellP)[j]? = some (.string x) := by
            rw [List.getElem?_map] at hx ⊢
            cases hq : ps[j]? with
            | none => rw [hq] at hx; simp at hx
            | some q => rw [hq] at hx; simp at hx; rw [← hx]; rfl
          have e := hcl j _ hx2
          have ea : (⟨g, 0, none⟩ : Addr).add j = ⟨g, j, none⟩ := by unfold Addr.add; split <;> simp_all
          rw [ea] at e
          simpa using e
      subst hag
      have hjoin : Lib.join ((ps.map fun p => ba (pP p)).map (·.data.toList)) (⟨#[32, 97, 110, 100, 32]⟩ : ByteArray).data.toList = pF ps := by
        rw [List.map_map]
        have : ((fun x : ByteArray => x.data.toList) ∘ fun p => ba (pP p)) = pP := by funext p; exact ba_list (pP p)
        rw [this]
        exact join_pF ps
      have HJ : Hid _ := Tryz.strings_Join g 0 c1 (ps.map fun p => ba (pP p)) ⟨#[32, 97, 110, 100, 32]⟩ wr hcells hgl (by rw [List.length_map]; omega) (by rw [List.length_map]; exact hcap) (by rw [hjoin]; have := pF_le ps HP.out; omega)
      rw [hjoin, List.length_map] at HJ
      have HRES : Hid ((⟨(pF ps).toArray⟩ : ByteArray) = ba (pF ps)) := (rfl : (⟨(pF ps).toArray⟩ : ByteArray) = ba (pF ps))
      have HBW : Hid (Below w.heap.size w wr) := HR.out.bel
      clear hjoin hcells hcap hgl R HR
      rw [HRES.out] at HJ
      obtain ⟨res, hres⟩ : ∃ res, res = ba (pF ps) := ⟨_, rfl⟩
      have HQ : Hid (res = ba (pF ps)) := hres
      rw [← hres] at HJ
      clear hres HRES
      go_wp2_with fail
      refine Calls.mono HJ.out ?_
      rintro e W1 ⟨rfl, b1⟩
      have HB1 : Hid (Below w.heap.size w W1) := HBW.out.trans (b1.mono HBW.out.size)
      clear b1
      go_wp2
      go_ret
      exact ⟨by rw [← HQ.out]; rfl, HB1.out⟩
end Go.Proofs.YtcckoncgfmbhiaaGreatDoor
