/- Proved: for every list of calls, BagPlays answers true (behind any 60 calls the bag has just the packets that it should), errors.errorType being laid as the program's text lays it (the card's tie, over the pruned copy).
  The frame is the guide's own shell (proof-skeleton.mjs) at this function; the walk and all ahead of it are mine. -/
import Derived.Test.YtgbdnclolgdojaaDoorRows
import Derived.Test.YtgbdnclolgdojaaDoorBagPlay
import Derived.Test.YtgbdnclolgdojaaDoorInRow
import Derived.Deep.CutBlock
import Derived.Deep.DeepCutAuto
import Derived.Deep.LoopGhost
import Derived.Deep.RegionHeld3
import Derived.WalkKit
import Derived.WalkLawsBesides
import Derived.ProofKit
import Derived.OpenShut
import Derived.ChangeSame
import Derived.ChangeVars
import Derived.JoinedOf
import Derived.RowKit
import Derived.RowKitTokens
import Derived.LaidLaws
import Derived.LaidHandle
import Derived.Stop.Joined
import Derived.SevenTiedAt
import Derived.Test.YtgbdnclolgdojaaDoorTie
import Derived.Test.YtgbdnclolgdojaaDoorCards
import Derived.ShutString
import Derived.ChangeOld
import Derived.Below
namespace Go.Proofs.YtgbdnclolgdojaaDoor.bagPlays
open Go.ChangeShapes Go.WideShapes Go.ChangeAt Go.RowKit
open Go.ChangeMaps (open_string shut_string)
set_option linter.unusedVariables false

theorem own : ownKnob Tryd.prog.godebug = none := by kernel_rfl
theorem laidOut : laidOutB Tryd.prog = true := by kernel_rfl


theorem et : Tryd.prog.globalNamed "errors.errorType" = some 0 := by kernel_rfl
theorem rt : (Tryd.prog.cutTypes.find? (·.1 == "internal/reflectlite.rtype")).map (·.2) = some 122 := by kernel_rfl
theorem oneRow : ((List.range 188).filter fun t => Tryd.prog.rowNamed t [101, 114, 114, 111, 114]) = [33] := by kernel_rfl
theorem typesSize : Tryd.prog.types.size = 188 := by kernel_rfl
/-- What the tied variable gives a walk: its one cell. -/
theorem handle_of_laid {W : World} (h : laidMetH Tryd.prog Rows.bagPlaysRow.laid W) : ErrType W := by
  have h' : laidMet Tryd.prog [] W ∧ handlesMet Tryd.prog Rows.bagPlaysRow.laid W := h
  obtain ⟨name, u, ty, e1, e2, e3, e4, e5⟩ := h'.2 _ (List.mem_singleton.2 rfl)
  have en : name = [101, 114, 114, 111, 114] := (Option.some.inj e1).symm
  subst en
  obtain rfl := Option.some.inj (rt.symm.trans e2)
  have hm : ty ∈ (List.range 188).filter fun t => Tryd.prog.rowNamed t [101, 114, 114, 111, 114] := List.mem_filter.2 ⟨List.mem_range.2 (by rw [← typesSize]; exact e3), e4⟩
  rw [oneRow] at hm
  obtain rfl := List.mem_singleton.1 hm
  have hh : typeHandle Tryd.prog 33 = .pointer (some ⟨1, 33, none⟩) := by kernel_rfl
  rw [hh] at e5
  unfold ErrType
  simpa using World.var?_cell et e5 0

/-! ### STEP 1: the walk -/
set_option maxRecDepth 100000 in
set_option maxHeartbeats 20000000 in
theorem walk (a0 : Option Addr) (len0 cap0 : Nat) (t0 : List Ac3) (w : World) (hE : ErrType w) (w0 : InRow 4 Ac3.cells Ac3.ok ac0 w a0 len0 t0) :
    Calls Tryd.prog 3 #[.slice a0 len0 cap0] w fun e w' => e = .returned (.bool true) ∧ Below w.heap.size w w' := by
  have hmax := w0.2.1
  have HX : Hid (InRow 4 Ac3.cells Ac3.ok ac0 w a0 len0 t0 ∧ ErrType w) := ⟨w0, hE⟩
  have hpl := pl_new w hE
  have HP : Hid _ := hpl
  clear w0 hE hpl
  go_enter Tryd.func3, Tryd.ntmps3
  go_wp2_with fail
  refine (bawake_any _).mono ?_
  rintro e w1 ⟨rfl, hb1⟩
  have H1 : Hid (Pl w w1 bg0 bg0 (.slice none 0 0) none 0) := HP.out.below hb1
  clear hb1
  go_wp2
  go_loopw [5] (fun y wr => ∃ (i : Nat) (g : Bg) (v : Value) (a : Option Addr) (c : Nat), y = .int .i64 i ∧ i ≤ len0 ∧ i ≤ 60 ∧ Hid (Pl w wr g g v a c ∧ g.ps.length ≤ i ∧ g.last ≤ i)) (fun y _ => 60 - (intOf y).toNat)
  case atStart => exact ⟨0, bg0, _, _, _, rfl, Nat.zero_le _, Nat.zero_le _, (⟨H1.out, Nat.le_refl _, Int.le_refl _⟩ : Pl w w1 bg0 bg0 (.slice none 0 0) none 0 ∧ _ ∧ _)⟩
  case round =>
    obtain ⟨i, g, v, a, c, rfl, hil, hi60, H⟩ := hrel
    by_cases hlt : i < len0 ∧ i < 60
    · obtain ⟨hl1, hl2⟩ := hlt
      obtain ⟨b, o, ha, hb, hcells⟩ := HX.out.1.2.2.resolve_left (by omega)
      subst ha
      obtain ⟨hok, hc⟩ := hcells i hl1
      obtain ⟨t, ht⟩ : ∃ t, t = t0.getD i ac0 := ⟨_, rfl⟩
      rw [← ht] at hok hc
      have hB := H.out.1.bel
      have s0 := (bcell hB b (o + i * 4 + 0) hb).trans (hc 0 (by omega))
      have s1 := (bcell hB b (o + i * 4 + 1) hb).trans (hc 1 (by omega))
      have s2 := (bcell hB b (o + i * 4 + 2) hb).trans (hc 2 (by omega))
      have s3 := (bcell hB b (o + i * 4 + 3) hb).trans (hc 3 (by omega))
      simp only [Ac3.cells, Nat.add_zero, List.getElem?_cons_zero, List.getElem?_cons_succ] at s0 s1 s2 s3
      have hi0 : (0 : Int) ≤ (i : Int) := Int.natCast_nonneg _
      have hi1 : (i : Int) < (len0 : Int) := by omega
      have hi2 : (i : Int) < 60 := by omega
      have hsz := hok.2.2.2
      have HO : Hid t.ok := hok
      obtain ⟨K, hK⟩ : ∃ K, K = t.kind := ⟨_, rfl⟩
      rw [← hK] at s0
      have hz := H.out.1.lt
      clear ht hok hc hcells hB hb hK
      obtain ⟨s', hs'⟩ : ∃ s' : ByteArray, s' = (if 2100 < t.s.size then t.s.extract 0 2100 else t.s) := ⟨_, rfl⟩
      have hsz' : s'.size ≤ 2100 := by rw [hs']; split <;> first | (simp; omega) | omega
      have hss : (¬ 2100 < t.s.size ∧ s' = t.s) ∨ (2100 < t.s.size ∧ s' = t.s.extract 0 2100) := by
        rw [hs']; by_cases h : 2100 < t.s.size
        · exact .inr ⟨h, by rw [if_pos h]⟩
        · exact .inl ⟨h, by rw [if_neg h]⟩
      clear hs'
      obtain ⟨W1, hW1⟩ : ∃ W1, W1 = wr.alloc (.cells #[.int .i64 K, .int .i64 t.a, .int .i64 t.b, .string s'] 31) := ⟨_, rfl⟩
      go_upto_if 44 with fail
      go_cut [] (fun wx => W1 = wx)
      case first =>
        rcases hss with ⟨hss, he⟩ | ⟨hss, he⟩
        · go_wp2
          go_meet
          rw [hW1, he]
        · go_wp2
          go_meet
          rw [hW1, he]
      case rest =>
        subst hcut
        clear s0 s1 s2 s3 hss hsz
        have hp0 := H.out.1.alloc (.cells #[.int .i64 K, .int .i64 t.a, .int .i64 t.b, .string s'] 31)
        have hact : W1.heap[wr.heap.size]? = some (.cells #[.int .i64 K, .int .i64 t.a, .int .i64 t.b, .string s'] 31 (0, 0)) := by rw [hW1]; exact heap_alloc_new wr _
        rw [← hW1] at hp0
        have HP0 : Hid (Pl w W1 g g v a c) := hp0
        have HA : Hid (W1.heap[wr.heap.size]? = some (.cells #[.int .i64 K, .int .i64 t.a, .int .i64 t.b, .string s'] 31 (0, 0))) := hact
        have HV : Hid (∀ k, v.ownBlock = some k → k < wr.heap.size) := fun k e => (H.out.1.bag.row.lt _ e).2
        have HG0 : Hid (g.ps.length ≤ i ∧ g.last ≤ i) := ⟨H.out.2.1, H.out.2.2⟩
        obtain ⟨d0, d1, d2, d3, df⟩ := four_block hact
        have dl := lt_of_block hact
        clear hp0 hact hW1 H
        go_upto_block 2 with fail
        go_cut [51] (fun _ wx => ∃ (g' : Bg) (v' : Value) (a' : Option Addr) (c' : Nat), Hid (Pl w wx g' g' v' a' c' ∧ g'.ps.length ≤ i + 1 ∧ g'.last ≤ i + 1))
        case first =>
          have hkk : K = 1 ∨ K = 2 ∨ K = 3 ∨ K = 4 ∨ ((K == 1) = false ∧ (K == 2) = false ∧ (K == 3) = false ∧ (K == 4) = false) := by
            by_cases k1 : K = 1
            · exact .inl k1
            by_cases k2 : K = 2
            · exact .inr (.inl k2)
            by_cases k3 : K = 3
            · exact .inr (.inr (.inl k3))
            by_cases k4 : K = 4
            · exact .inr (.inr (.inr (.inl k4)))
            · exact .inr (.inr (.inr (.inr ⟨by simpa using k1, by simpa using k2, by simpa using k3, by simpa using k4⟩)))
          rcases hkk with rfl | rfl | rfl | rfl | ⟨k1, k2, k3, k4⟩
          · as_aux_lemma =>
            have hgl := HG0.out.1
            have hgt := HG0.out.2
            by_cases hs2 : s'.size ≤ 2000
            · have hsd := send_ok _ _ v g t.a t.b s' _ HP0.out.bag HP0.out.bel.size hs2 (by omega) HP0.out.ok.lo (by omega)
              have HL : Hid (0 ≤ g.last) := HP0.out.ok.lo
              go_wp2_with fail
              refine hsd.mono ?_
              rintro e w2 ⟨rfl, v2, hA2, hK2⟩
              have hp2 := HP0.out.kept hK2 hA2 (HP0.out.ok.add _ _ _ hs2 (by omega) HO.out.2.1 HO.out.2.2.1)
              have hact := (hK2.block wr.heap.size dl (by omega) (fun e => by have := HV.out _ e.symm; omega)).trans HA.out
              clear d0 d1 d2 d3 df dl
              obtain ⟨d0, d1, d2, d3, df⟩ := four_block hact
              have x0 := two_c0 hp2.box
              have x1 := two_c1 hp2.box
              have dl := lt_of_block hact
              have hxl := hp2.lt
              have hrs := rsend_ok g.last t.a t.b a c g.ps s' w2 hp2.row hs2 (by omega) HL.out (by omega)
              have HP2 : Hid (Pl w w2 (g.add t.a t.b s') g v2 a c) := hp2
              clear hA2 hK2 hp2 hact hsd
              go_wp2_with fail
              refine hrs.mono ?_
              rintro e w3 ⟨a3, c3, rfl, hR3, hf3, hb3⟩
              have hp3 := HP2.out.below hb3
              have y0 := two_c0 hp3.box
              have y1 := two_c1 hp3.box
              have yf := two_free hp3.box
              have yl := hp3.lt
              have hset := hp3.setX (h' := g.add t.a t.b s') c3 hR3 (fun _ => HP2.out.fresh hf3)
              have hl9 : (g.add t.a t.b s').ps.length = g.ps.length + 1 := by show (g.ps ++ [_]).length = _; simp
              rw [hl9] at hset
              have HS3 : Hid _ := hset
              have HG : Hid ((g.add t.a t.b s').ps.length = g.ps.length + 1) := hl9
              clear hp3 hset hR3 hf3 hb3 hrs hl9 x0 x1 d0 d1 d2 d3 df
              go_wp2_with (go_at_call 9; refine (of_nil _).mono ?_; rintro e w' ⟨rfl, rfl⟩)
              go_meet
              exact ⟨g.add t.a t.b s', v2, a3, c3, HS3.out.alloc _, by rw [HG.out]; omega, by show g.last + 1 ≤ _; omega⟩
            · have hsd := send_long w.heap.size t.a t.b s' W1 (by omega) (by unfold maxLen; omega)
              have x0 := two_c0 HP0.out.box
              have x1 := two_c1 HP0.out.box
              have hxl := HP0.out.lt
              have hrs := rsend_long g.last t.a t.b a g.ps.length c s' W1 (by omega) (by unfold maxLen; omega)
              go_wp2_with fail
              refine hsd.mono ?_
              rintro e w2 ⟨rfl, hw2⟩
              rw [hw2]
              clear hw2 hsd
              go_wp2_with fail
              refine hrs.mono ?_
              rintro e w3 ⟨rfl, hb3⟩
              have hp3 := HP0.out.below hb3
              have y0 := two_c0 hp3.box
              have y1 := two_c1 hp3.box
              have yf := two_free hp3.box
              have yl := hp3.lt
              have hset := hp3.setX (h' := g) c hp3.row hp3.far
              have HS3 : Hid _ := hset
              clear hp3 hset hb3 hrs x0 x1
              go_wp2_with (go_at_call 9; refine (of_code 1 _ (HS3.out.alloc _).et).mono ?_; rintro e w5 ⟨rfl, hb5⟩)
              go_meet
              exact ⟨g, v, a, c, (HS3.out.alloc _).below hb5, by omega, by omega⟩
          · as_aux_lemma =>
            have hgl := HG0.out.1
            have hgt := HG0.out.2
            have hl4 := HP0.out.ok.len
            rcases at_or g.ps t.a with ⟨k, hk, hid⟩ | hno
            · have htk := take_hit _ _ v g t.a k _ HP0.out.bag HP0.out.ok hk hid
              have hdel : (g.del k).ps = g.ps.filter fun p => p.id != t.a := by
                have := erase_filter HP0.out.ok.rise k hk
                rw [hid] at this; exact this
              have hdl : (g.del k).ps.length ≤ g.ps.length := (List.eraseIdx_sublist _ _).length_le
              have hfst : ∀ z, z < k → (g.ps.getD z pk0).id ≠ t.a := fun z hz => by have := rising_lt HP0.out.ok.rise hz hk; omega
              have HK : Hid (k < g.ps.length ∧ (g.ps.getD k pk0).id = t.a ∧ (∀ z, z < k → (g.ps.getD z pk0).id ≠ t.a) ∧ (g.del k).ps = g.ps.filter fun p => p.id != t.a) := ⟨hk, hid, hfst, hdel⟩
              clear hk hid hfst hdel
              go_wp2_with fail
              refine htk.mono ?_
              rintro e w2 ⟨he, v2, hA2, hK2⟩
              obtain ⟨q, hq⟩ : ∃ q, q = g.ps.getD k pk0 := ⟨_, rfl⟩
              have he' : e = .returned (.tuple #[.agg #[.int .i64 q.id, .int .i64 q.src, .int .i64 q.dst, .string q.s], .nilIface]) := by rw [he, ← hq]; rfl
              subst he'
              have hp2 := HP0.out.kept hK2 hA2 (HP0.out.ok.del k)
              have hact := (hK2.block wr.heap.size dl (by omega) (fun e => by have := HV.out _ e.symm; omega)).trans HA.out
              clear d0 d1 d2 d3 df dl
              obtain ⟨d0, d1, d2, d3, df⟩ := four_block hact
              have x0 := two_c0 hp2.box
              have x1 := two_c1 hp2.box
              have dl := lt_of_block hact
              have hxl := hp2.lt
              have HP2 : Hid (Pl w w2 (g.del k) g v2 a c ∧ w2.heap[wr.heap.size]? = some (.cells #[.int .i64 2, .int .i64 t.a, .int .i64 t.b, .string s'] 31 (0, 0))) := ⟨hp2, hact⟩
              have HQ : Hid (q = g.ps.getD k pk0) := hq
              clear hA2 hK2 hp2 hact htk he hq
              go_wp2_with fail
              refine (rfind_hit g.last t.a a c k g.ps _ (HP2.out.1.alloc _).row (by omega) HK.out.1 HK.out.2.1 HK.out.2.2.1).mono ?_
              rintro e w3 ⟨he, hb3⟩
              have he' : e = .returned (.tuple #[.agg #[.int .i64 q.id, .int .i64 q.src, .int .i64 q.dst, .string q.s], .bool true]) := by rw [he, ← HQ.out]; rfl
              subst he'
              have hp3 := (HP2.out.1.alloc _).below hb3
              have hact3 := (hb3.block wr.heap.size (by simp; omega)).trans ((Below.heap_alloc w2 _ _ dl).trans HP2.out.2)
              have hbx3 := (hb3.block w2.heap.size (by simp)).trans (heap_alloc_new w2 _)
              clear x0 x1 d0 d1 d2 d3 df
              obtain ⟨d0, d1, d2, d3, df⟩ := four_block hact3
              have x0 := two_c0 hp3.box
              have x1 := two_c1 hp3.box
              have dl3 := lt_of_block hact3
              have bl3 := lt_of_block hbx3
              have hxl3 := hp3.lt
              have HP3 : Hid (Pl w w3 (g.del k) g v2 a c ∧ w3.heap[w2.heap.size]? = some (.cells #[.int .i64 q.id, .int .i64 q.src, .int .i64 q.dst, .string q.s] 41 (0, 0))) := ⟨hp3, hbx3⟩
              clear hp3 hact3 hbx3 hb3 he
              go_wp2_with fail
              refine (rwithout_any g.last t.a a c g.ps _ (HP3.out.1.alloc _).row (by omega)).mono ?_
              rintro e w4 ⟨a4, c4, rfl, hR4, hf4, hb4⟩
              have hp4 := (HP3.out.1.alloc _).below hb4
              have hbx4 := (hb4.block w2.heap.size (by simp; omega)).trans ((Below.heap_alloc w3 _ _ bl3).trans HP3.out.2)
              have hby4 := (hb4.block w3.heap.size (by simp)).trans (heap_alloc_new w3 _)
              clear x0 x1 d0 d1 d2 d3 df
              obtain ⟨m0, m1, m2, m3, mf⟩ := four_block hbx4
              obtain ⟨n0, n1, n2, n3, nf⟩ := four_block hby4
              have y0 := two_c0 hp4.box
              have y1 := two_c1 hp4.box
              have yf := two_free hp4.box
              have yl := hp4.lt
              have bl4 := lt_of_block hbx4
              have cl4 := lt_of_block hby4
              rw [← HK.out.2.2.2] at hR4 ⊢
              have hset := hp4.setX (h' := g.del k) c4 hR4 (fun _ => (HP3.out.1.alloc _).fresh hf4)
              have HS4 : Hid _ := hset
              clear hp4 hset hR4 hf4 hb4 hbx4 hby4
              go_wp2
              go_meet
              exact ⟨g.del k, v2, a4, c4, HS4.out, by omega, by show g.last ≤ _; omega⟩
            · have hno' : ∀ z, z < g.ps.length → (g.ps.getD z pk0).id ≠ t.a := fun z hz => hno _ (by rw [List.getD_eq_getElem?_getD, List.getElem?_eq_getElem hz]; simp)
              have hfl : g.ps.filter (fun p => p.id != t.a) = g.ps := List.filter_eq_self.2 (fun p hp => by simpa using hno p hp)
              have htk := take_miss _ _ v g t.a _ HP0.out.bag HP0.out.ok hno
              have HK : Hid ((∀ z, z < g.ps.length → (g.ps.getD z pk0).id ≠ t.a) ∧ g.ps.filter (fun p => p.id != t.a) = g.ps) := ⟨hno', hfl⟩
              clear hno hno' hfl
              go_wp2_with fail
              refine htk.mono ?_
              rintro e w2 ⟨he, hb2⟩
              have he' : e = .returned (.tuple #[.agg #[.int .i64 0, .int .i64 0, .int .i64 0, .string { data := #[] }], .iface 38 (.int .i64 9)]) := he
              subst he'
              have hp2 := HP0.out.below hb2
              have hact := (hb2.block wr.heap.size dl).trans HA.out
              clear d0 d1 d2 d3 df dl
              obtain ⟨d0, d1, d2, d3, df⟩ := four_block hact
              have x0 := two_c0 hp2.box
              have x1 := two_c1 hp2.box
              have dl := lt_of_block hact
              have hxl := hp2.lt
              have HP2 : Hid (Pl w w2 g g v a c ∧ w2.heap[wr.heap.size]? = some (.cells #[.int .i64 2, .int .i64 t.a, .int .i64 t.b, .string s'] 31 (0, 0))) := ⟨hp2, hact⟩
              clear hp2 hact htk he hb2
              go_wp2_with fail
              refine (rfind_miss g.last t.a a c g.ps _ (HP2.out.1.alloc _).row (by omega) HK.out.1).mono ?_
              rintro e w3 ⟨he, hb3⟩
              have he' : e = .returned (.tuple #[.agg #[.int .i64 0, .int .i64 0, .int .i64 0, .string { data := #[] }], .bool false]) := he
              subst he'
              have hp3 := (HP2.out.1.alloc (.cells #[.int .i64 0, .int .i64 0, .int .i64 0, .string { data := #[] }] 41)).below hb3
              have hact3 := (hb3.block wr.heap.size (by simp; omega)).trans ((Below.heap_alloc w2 _ _ dl).trans HP2.out.2)
              have hbx3 := (hb3.block w2.heap.size (by simp)).trans (heap_alloc_new w2 _)
              clear x0 x1 d0 d1 d2 d3 df
              obtain ⟨d0, d1, d2, d3, df⟩ := four_block hact3
              have x0 := two_c0 hp3.box
              have x1 := two_c1 hp3.box
              have dl3 := lt_of_block hact3
              have bl3 := lt_of_block hbx3
              have hxl3 := hp3.lt
              have HP3 : Hid (Pl w w3 g g v a c ∧ w3.heap[w2.heap.size]? = some (.cells #[.int .i64 0, .int .i64 0, .int .i64 0, .string { data := #[] }] 41 (0, 0))) := ⟨hp3, hbx3⟩
              clear hp3 hact3 hbx3 hb3 he
              go_wp2_with fail
              refine (rwithout_any g.last t.a a c g.ps _ (HP3.out.1.alloc _).row (by omega)).mono ?_
              rintro e w4 ⟨a4, c4, rfl, hR4, hf4, hb4⟩
              have hp4 := (HP3.out.1.alloc _).below hb4
              have hbx4 := (hb4.block w2.heap.size (by simp; omega)).trans ((Below.heap_alloc w3 _ _ bl3).trans HP3.out.2)
              have hby4 := (hb4.block w3.heap.size (by simp)).trans (heap_alloc_new w3 _)
              clear x0 x1 d0 d1 d2 d3 df
              obtain ⟨m0, m1, m2, m3, mf⟩ := four_block hbx4
              obtain ⟨n0, n1, n2, n3, nf⟩ := four_block hby4
              have y0 := two_c0 hp4.box
              have y1 := two_c1 hp4.box
              have yf := two_free hp4.box
              have yl := hp4.lt
              have bl4 := lt_of_block hbx4
              have cl4 := lt_of_block hby4
              rw [HK.out.2] at hR4 ⊢
              have hset := hp4.setX (h' := g) c4 hR4 (fun _ => (HP3.out.1.alloc _).fresh hf4)
              have HS4 : Hid _ := hset
              clear hp4 hset hR4 hf4 hb4 hbx4 hby4
              go_wp2_with (go_at_call 13; refine (is_same 9 _).mono ?_; rintro e w' ⟨rfl, rfl⟩)
              go_meet
              exact ⟨g, v, a4, c4, HS4.out, by omega, by omega⟩
          · as_aux_lemma =>
            have hgl := HG0.out.1
            have hgt := HG0.out.2
            have hl4 := HP0.out.ok.len
            rcases at_or g.ps t.a with ⟨k, hk, hid⟩ | hno
            · have hfst : ∀ z, z < k → (g.ps.getD z pk0).id ≠ t.a := fun z hz => by have := rising_lt HP0.out.ok.rise hz hk; omega
              have hmem : g.ps.getD k pk0 ∈ g.ps := by rw [List.getD_eq_getElem?_getD, List.getElem?_eq_getElem hk]; simp
              have hpo := HP0.out.ok.all _ hmem
              have hcp := copy_ok _ _ v g t.a k _ HP0.out.bag HP0.out.bel.size HP0.out.ok hk hid (by omega) (by omega)
              have HL : Hid (0 ≤ g.last) := HP0.out.ok.lo
              obtain ⟨q, hq⟩ : ∃ q, q = g.ps.getD k pk0 := ⟨_, rfl⟩
              have HK : Hid (k < g.ps.length ∧ (g.ps.getD k pk0).id = t.a ∧ (∀ z, z < k → (g.ps.getD z pk0).id ≠ t.a)) := ⟨hk, hid, hfst⟩
              rw [← hq] at hpo hcp
              have HPO : Hid (q.ok g.last) := hpo
              have HQ : Hid (q = g.ps.getD k pk0) := hq
              clear hk hid hfst hmem hpo hq
              go_wp2_with fail
              refine hcp.mono ?_
              rintro e w2 ⟨rfl, v2, hA2, hK2⟩
              have hp2 := HP0.out.kept hK2 hA2 (HP0.out.ok.add _ _ _ HPO.out.s (by omega) HPO.out.src HPO.out.dst)
              have hact := (hK2.block wr.heap.size dl (by omega) (fun e => by have := HV.out _ e.symm; omega)).trans HA.out
              clear d0 d1 d2 d3 df dl
              obtain ⟨d0, d1, d2, d3, df⟩ := four_block hact
              have x0 := two_c0 hp2.box
              have x1 := two_c1 hp2.box
              have dl := lt_of_block hact
              have hxl := hp2.lt
              have HP2 : Hid (Pl w w2 (g.add q.src q.dst q.s) g v2 a c) := hp2
              clear hA2 hK2 hp2 hact hcp
              go_wp2_with fail
              refine (rfind_hit g.last t.a a c k g.ps _ HP2.out.row (by omega) HK.out.1 HK.out.2.1 HK.out.2.2).mono ?_
              rintro e w3 ⟨he, hb3⟩
              have he' : e = .returned (.tuple #[.agg #[.int .i64 q.id, .int .i64 q.src, .int .i64 q.dst, .string q.s], .bool true]) := by rw [he, ← HQ.out]; rfl
              subst he'
              have hp3 := HP2.out.below hb3
              clear x0 x1 d0 d1 d2 d3 df
              have x0 := two_c0 (hp3.alloc (.cells #[.int .i64 q.id, .int .i64 q.src, .int .i64 q.dst, .string q.s] 44)).box
              have x1 := two_c1 (hp3.alloc (.cells #[.int .i64 q.id, .int .i64 q.src, .int .i64 q.dst, .string q.s] 44)).box
              have hxl3 := hp3.lt
              have HP3 : Hid (Pl w w3 (g.add q.src q.dst q.s) g v2 a c) := hp3
              have hqs := HPO.out.s
              clear hp3 hb3 he
              go_wp2_with fail
              refine (rsend_ok g.last q.src q.dst a c g.ps q.s _ (HP3.out.alloc _).row hqs (by omega) HL.out (by omega)).mono ?_
              rintro e w4 ⟨a4, c4, rfl, hR4, hf4, hb4⟩
              have hp4 := (HP3.out.alloc _).below hb4
              clear x0 x1
              have y0 := two_c0 hp4.box
              have y1 := two_c1 hp4.box
              have yf := two_free hp4.box
              have yl := hp4.lt
              have hset := hp4.setX (h' := g.add q.src q.dst q.s) c4 hR4 (fun _ => (HP3.out.alloc _).fresh hf4)
              have hl9 : (g.add q.src q.dst q.s).ps.length = g.ps.length + 1 := by show (g.ps ++ [_]).length = _; simp
              rw [hl9] at hset
              have HS4 : Hid _ := hset
              have HG : Hid ((g.add q.src q.dst q.s).ps.length = g.ps.length + 1) := hl9
              clear hp4 hset hR4 hf4 hb4 hl9 hqs
              go_wp2_with (go_at_call 9; refine (of_nil _).mono ?_; rintro e w' ⟨rfl, rfl⟩)
              go_meet
              exact ⟨g.add q.src q.dst q.s, v2, a4, c4, HS4.out.alloc _, by rw [HG.out]; omega, by show g.last + 1 ≤ _; omega⟩
            · have hno' : ∀ z, z < g.ps.length → (g.ps.getD z pk0).id ≠ t.a := fun z hz => hno _ (by rw [List.getD_eq_getElem?_getD, List.getElem?_eq_getElem hz]; simp)
              have hcp := copy_miss _ _ v g t.a _ HP0.out.bag HP0.out.ok hno
              have HK : Hid (∀ z, z < g.ps.length → (g.ps.getD z pk0).id ≠ t.a) := hno'
              clear hno hno'
              go_wp2_with fail
              refine hcp.mono ?_
              rintro e w2 ⟨rfl, hb2⟩
              have hp2 := HP0.out.below hb2
              have hact := (hb2.block wr.heap.size dl).trans HA.out
              clear d0 d1 d2 d3 df dl
              obtain ⟨d0, d1, d2, d3, df⟩ := four_block hact
              have x0 := two_c0 hp2.box
              have x1 := two_c1 hp2.box
              have dl := lt_of_block hact
              have hxl := hp2.lt
              have HP2 : Hid (Pl w w2 g g v a c) := hp2
              clear hp2 hact hcp hb2
              go_wp2_with fail
              refine (rfind_miss g.last t.a a c g.ps _ HP2.out.row (by omega) HK.out).mono ?_
              rintro e w3 ⟨he, hb3⟩
              have he' : e = .returned (.tuple #[.agg #[.int .i64 0, .int .i64 0, .int .i64 0, .string { data := #[] }], .bool false]) := he
              subst he'
              have HP3 : Hid (Pl w w3 g g v a c) := HP2.out.below hb3
              clear hb3 he x0 x1 d0 d1 d2 d3 df
              go_wp2_with (go_at_call 13; refine (is_same 9 _).mono ?_; rintro e w' ⟨rfl, rfl⟩)
              go_roundw
              case rel => exact ⟨i + 1, g, v, a, c, by go_num, by omega, by omega, (⟨HP3.out.alloc _, by omega, by omega⟩ : Pl _ _ _ _ _ _ _ ∧ _ ∧ _)⟩
              case measure => simp [intOf]; omega
          · as_aux_lemma =>
            have hgl := HG0.out.1
            have hgt := HG0.out.2
            have hl4 := HP0.out.ok.len
            have x0 := two_c0 HP0.out.box
            have x1 := two_c1 HP0.out.box
            have hxl := HP0.out.lt
            have hplen : (g.purge t.a).ps.length ≤ g.ps.length := List.filter_sublist.length_le
            go_wp2_with fail
            refine (rpurge_any g.last t.a a c g.ps _ HP0.out.row (by omega)).mono ?_
            rintro e w2 ⟨a2, c2, rfl, hR2, hf2, hb2⟩
            have ep : (g.ps.filter fun p => p.dst != t.a) = (g.purge t.a).ps := rfl
            rw [ep] at hR2 ⊢
            obtain ⟨nP, hnP⟩ : ∃ nP, nP = (g.purge t.a).ps.length := ⟨_, rfl⟩
            obtain ⟨nG, hnG⟩ : ∃ nG, nG = g.ps.length := ⟨_, rfl⟩
            rw [← hnP]
            rw [← hnP, ← hnG] at hplen
            obtain ⟨W3, hW3⟩ : ∃ W3, W3 = w2.alloc (.cells #[.int .i64 g.last, .slice a2 nP c2] 28) := ⟨_, rfl⟩
            have hp2 := HP0.out.below hb2
            have hp3 : Pl w W3 g g v a c := by rw [hW3]; exact hp2.alloc _
            have hact := (hb2.block wr.heap.size dl).trans HA.out
            have hact3 : W3.heap[wr.heap.size]? = some (.cells #[.int .i64 4, .int .i64 t.a, .int .i64 t.b, .string s'] 31 (0, 0)) := by rw [hW3]; exact (Below.heap_alloc w2 _ _ (lt_of_block hact)).trans hact
            have hby3 : W3.heap[w2.heap.size]? = some (.cells #[.int .i64 g.last, .slice a2 nP c2] 28 (0, 0)) := by rw [hW3]; exact heap_alloc_new w2 _
            have hR3 : RowAt W3 a2 (g.purge t.a).ps := by rw [hW3]; exact hR2.below ((Below.refl _ _).alloc (Nat.le_refl _) _)
            have hz2 : W1.heap.size ≤ w2.heap.size := hb2.size
            have HP3 : Hid (Pl w W3 g g v a c ∧ W3.heap[w2.heap.size]? = some (.cells #[.int .i64 g.last, .slice a2 nP c2] 28 (0, 0)) ∧ RowAt W3 a2 (g.purge t.a).ps ∧ (∀ x, a2 = some x → w.heap.size + 2 ≤ x.block ∧ v.ownBlock ≠ some x.block ∧ (0 < (g.purge t.a).ps.length → x.block < W3.heap.size))) := ⟨hp3, hby3, hR3, fun x hx => ⟨(HP0.out.fresh hf2 x hx).1, (HP0.out.fresh hf2 x hx).2, fun h0 => by
              obtain ⟨gg, hgg, R⟩ := hR3 h0
              rw [hgg] at hx
              obtain rfl := Option.some.inj hx
              exact R.lt⟩⟩
            have HN : Hid (nP = (g.purge t.a).ps.length ∧ nG = g.ps.length) := ⟨hnP, hnG⟩
            clear d0 d1 d2 d3 df dl x0 x1 hxl
            obtain ⟨d0, d1, d2, d3, df⟩ := four_block hact3
            have x0 := two_c0 hp3.box
            have x1 := two_c1 hp3.box
            rw [← hnG] at x1
            have y0 := two_c0 hby3
            have y1 := two_c1 hby3
            have yf := two_free hby3
            have dl := lt_of_block hact3
            have yl := lt_of_block hby3
            have hxl := hp3.lt
            have hpg := purge_any _ _ v g t.a W3.drew hp3.drew.bag hp3.ok
            rw [← hnP, ← hnG] at hpg
            have HPG : Hid _ := hpg
            have HBX : Hid (W3.heap[w.heap.size + 1]? = some (.cells #[.int .i64 g.last, .slice a nG c] 28 (0, 0)) ∧ W3.heap[w2.heap.size]? = some (.cells #[.int .i64 g.last, .slice a2 nP c2] 28 (0, 0)) ∧ (∀ k, v.ownBlock = some k → k < wr.heap.size ∧ w.heap.size ≤ k) ∧ v.ownBlock ≠ some (w.heap.size + 1) ∧ wr.heap.size ≤ w2.heap.size) := ⟨by rw [hnG]; exact hp3.box, hby3, fun k e => ⟨HV.out k e, (hp3.bag.row.lt k e).1⟩, hp3.vx, by have := lt_of_block HA.out; omega⟩
            have hnz : (nG : Int) ≤ 4000 := by omega
            have hdz : (0 : Int) ≤ (nG : Int) - (nP : Int) := by omega
            have hwr : IntKind.i64.wrap ((nG : Int) - (nP : Int)) = (nG : Int) - (nP : Int) := IntWalk.i64_in _ ⟨by omega, by omega⟩
            have HWR : Hid _ := hwr
            clear hwr
            clear hp2 hp3 hact hact3 hby3 hR2 hR3 hf2 hb2 hnP hnG hpg
            go_upto_region 36 with fail
            rw [← hW3]
            clear hW3
            go_cut [186] (fun u wx => u = .bool false ∧ ∃ v', Hid (Pl w wx (g.purge t.a) g v' a c ∧ wx.heap[w2.heap.size]? = some (.cells #[.int .i64 g.last, .slice a2 nP c2] 28 (0, 0)) ∧ RowAt wx a2 (g.purge t.a).ps ∧ (∀ x, a2 = some x → w.heap.size + 2 ≤ x.block ∧ (0 < (g.purge t.a).ps.length → v'.ownBlock ≠ some x.block))))
            case first =>
              go_region_held3 (fun w' => w'.cell? ⟨w.heap.size + 1, 1, none⟩ = some (.slice a nG c) ∧ w'.cell? ⟨w2.heap.size, 1, none⟩ = some (.slice a2 nP c2) ∧ w'.cell? ⟨wr.heap.size, 1, none⟩ = some (.int .i64 t.a))
                (first
                  | go_keep
                  | assumption)
                (first
                  | (go_at_call 16; refine Calls.mono HPG.out ?_; rintro e w5 ⟨rfl, v5, hA5, hK5⟩
                     have q1 : w5.cell? ⟨w.heap.size + 1, 1, none⟩ = some (.slice a nG c) := (World.cell?_of_block (a := ⟨w.heap.size + 1, 1, none⟩) (hK5.block (w.heap.size + 1) hxl (by omega) (fun e => HBX.out.2.2.2.1 e.symm))).trans x1
                     have q2 : w5.cell? ⟨w2.heap.size, 1, none⟩ = some (.slice a2 nP c2) := (World.cell?_of_block (a := ⟨w2.heap.size, 1, none⟩) (hK5.block w2.heap.size yl (by have := HBX.out.2.2.2.2; omega) (fun e => by have := (HBX.out.2.2.1 _ e.symm).1; have := HBX.out.2.2.2.2; omega))).trans y1
                     have q3 : w5.cell? ⟨wr.heap.size, 1, none⟩ = some (.int .i64 t.a) := (World.cell?_of_block (a := ⟨wr.heap.size, 1, none⟩) (hK5.block wr.heap.size dl (by omega) (fun e => by have := (HBX.out.2.2.1 _ e.symm).1; omega))).trans d1))
              all_goals (try go_wp2_with fail)
              all_goals go_meet
              all_goals
                refine ⟨by simp; exact HWR.out.symm, v5, ?_⟩
                have hK : Kept W3 w5 w.heap.size v v5 := ⟨hK5.os, hK5.tape, hK5.output, hK5.size, hK5.block, hK5.own⟩
                obtain ⟨hq1, hq2, hq3, hq4⟩ := HP3.out
                have hq5 := HBX.out
                refine ⟨hq1.kept hK hA5 (hq1.ok.purge t.a), (hK.block w2.heap.size yl (by have := hq5.2.2.2.2; omega) (fun e => by have := (hq5.2.2.1 _ e.symm).1; have := hq5.2.2.2.2; omega)).trans hq2, fun h0 => ?_, fun x hx => ⟨(hq4 x hx).1, fun h0 e => ?_⟩⟩
                · obtain ⟨gg, hgg, R⟩ := hq3 h0
                  have h1 := hq4 _ hgg
                  exact ⟨gg, hgg, R.carry hK.size (hK.block gg R.lt (by have h2 : w.heap.size + 2 ≤ gg := h1.1; omega) (fun e => h1.2.1 e.symm))⟩
                · rcases hK.own _ e with q | q
                  · exact (hq4 x hx).2.1 q
                  · have := (hq4 x hx).2.2 h0; omega
            case rest =>
              rename World => wx
              obtain ⟨rfl, v5, H5⟩ := hcut
              have hset := H5.out.1.setX (h' := g.purge t.a) c2 H5.out.2.2.1 (fun h0 x hx => ⟨(H5.out.2.2.2 x hx).1, (H5.out.2.2.2 x hx).2 h0⟩)
              rw [← HN.out.1] at hset
              have HS5 : Hid _ := hset
              clear x0 x1 y0 y1 yf yl hxl d0 d1 d2 d3 df dl
              have y0 := two_c0 H5.out.2.1
              have y1 := two_c1 H5.out.2.1
              have yl := lt_of_block H5.out.2.1
              have x0 := two_c0 H5.out.1.box
              have x1 := two_c1 H5.out.1.box
              have xf := two_free H5.out.1.box
              have hxl := H5.out.1.lt
              clear hset H5 HP3 HBX HPG
              go_wp2
              go_meet
              exact ⟨g.purge t.a, v5, a2, c2, HS5.out, by have := HN.out.1; have := HN.out.2; omega, by show g.last ≤ _; omega⟩
          · as_aux_lemma =>
            go_wp2
            go_meet
            exact ⟨g, v, a, c, HP0.out, by have := HG0.out.1; omega, by have := HG0.out.2; omega⟩
        case rest =>
          clear HP0 HA HV HG0
          obtain ⟨g', v', a', c', H'⟩ := hcut
          have x1 := two_c1 H'.out.1.box
          have hlen : g'.ps.length ≤ 4000 := by have := H'.out.2.1; omega
          have hxl := H'.out.1.lt
          go_wp2_with fail
          go_region_held3 (fun w' => w'.cell? ⟨w.heap.size + 1, 1, none⟩ = some (.slice a' g'.ps.length c'))
            (first
              | go_keep
              | assumption)
            (first
              | (go_at_call 18; refine (pl_all H'.out.1.drew).mono ?_; rintro e w5 ⟨a2, c2, rfl, hR2, hP5, hb5⟩
                 have x5 := two_c1 hP5.box)
              | (go_at_call 17; refine (same_any a2 a' c2 c' g'.ps _ hR2 hP5.row hlen).mono ?_; rintro e w6 ⟨rfl, hb6⟩
                 have hP6 := hP5.below hb6
                 have x6 := two_c1 hP6.box)
              | (go_at_call 19; refine (len_any w.heap.size w.heap.size v' g' _ hP6.bag).mono ?_; rintro e w7 ⟨rfl, rfl⟩))
          all_goals
            have H7 : Hid (Pl w w7 g' g' v' a' c' ∧ g'.ps.length ≤ i + 1 ∧ g'.last ≤ i + 1) := ⟨hP6, H'.out.2⟩
            clear hP5 hP6 hR2 hb5 hb6 x5 x6
            go_wp2
            go_roundw
            case rel => exact ⟨i + 1, g', v', a', c', by go_num, by omega, by omega, by
              have := H7.out
              exact ⟨this.1, this.2.1, by have := this.2.2; omega⟩⟩
            case measure => simp [intOf]; omega
    · have hor : (True ∧ ¬ (i : Int) < (len0 : Int)) ∨ ((i : Int) < (len0 : Int) ∧ ¬ (i : Int) < 60) := by
        by_cases q : (i : Int) < (len0 : Int)
        · exact .inr ⟨q, by omega⟩
        · exact .inl ⟨trivial, q⟩
      clear hlt
      rcases hor with ⟨hor', hor⟩ | ⟨hor', hor⟩
      all_goals
        go_wp2
        go_ret
        exact ⟨rfl, H.out.1.bel⟩

/-! ### The row's step -/
set_option maxRecDepth 100000 in
theorem lifted (os : Os) (started : os.Started) (H : Type) (enc : TypeId × Value → H) :
    ReturnsInHanded {} Tryd.checked os 3 .any (fun w args => (Rows.bagPlaysSpec.pre enc Tryd.prog Tryd.f3 [] false w args ∧ laidMetH Tryd.prog Rows.bagPlaysRow.laid w) ∧ sizedMet enc Tryd.prog Tryd.f3 (OpenSpec.ofChange Rows.bagPlaysSpec) false w args) (Rows.bagPlaysSpec.post enc Tryd.prog Tryd.f3 false true false false) := by
  refine returnsInHanded_of_change_and (C := Tryd.checked) (X := fun w _ => laidMetH Tryd.prog Rows.bagPlaysRow.laid w) (fun _ _ _ hh h => h.of_heap hh) own started (by kernel_rfl) Tryd.func3
    (ChangeSpec.witness_at (enc := enc) (C := Tryd.checked) (os := os) (X := fun w _ => laidMetH Tryd.prog Rows.bagPlaysRow.laid w) false ({ World.holding Tryd.prog os ⟨#[], #[], []⟩ with heap := (World.holding Tryd.prog os ⟨#[], #[], []⟩).heap.modify 0 fun | .cells _ t frozen => .cells #[.iface 122 (.agg #[.pointer (some ⟨1, 33, none⟩)])] t frozen | o => o }) #[.slice none 0 0] 8 rfl (by kernel_rfl) (by kernel_rfl) (by kernel_rfl) (by kernel_rfl) (by kernel_rfl) (laidMetH_of_parts (laidMet_nil _ _) (by kernel_rfl))) ?_
  intro W base args ds gs before hval0 hW _ _ hL _
  have hval : ∀ (j : Nat) t v, Tryd.f3.params[j]? = some t → args[j]? = some v → Value.okWide Tryd.prog W .any base t v := hval0
  have hW' := hW
  obtain ⟨p, q, hA0, hV, rfl, hfz, hnd⟩ := hW
  have hA : DataW.TrodAll enc Tryd.prog W 0 (fun _ => true) true Tryd.f3.params.toList args.toList ds p := hA0
  rw [Tryd.params3] at hA hval
  obtain ⟨v0, vs0, d0, ds0, p0, q0, hargs, rfl, rfl, h0, r0⟩ := trodAll_cons hA
  obtain ⟨rfl, rfl, rfl⟩ := trodAll_nil r0
  obtain rfl : args = #[v0] := by cases args; simp_all
  obtain ⟨rfl, rfl⟩ := trodVars_none hV
  obtain ⟨a0, len0, cap0, rfl⟩ := okWide_slice Tryd.underlying22 (hval 0 22 v0 rfl rfl)
  have k0 := h0
  have lt0 : ∀ x ∈ p0, x.block < W.heap.size := by obtain ⟨m, hm⟩ := k0; exact DataW.trod_lt m _ _ _ hm
  obtain ⟨t0, w0⟩ : ∃ ts, InRow 4 Ac3.cells Ac3.ok ac0 W a0 len0 ts := by
    obtain ⟨fuel, hf⟩ := h0
    exact inrow_of 4 Ac3.cells Ac3.ok ac0 22 31 Tryd.underlying22 cellsAc3 (by omega) lenAc3 (fun n cs x => ac3_of n cs x) hf
  clear hA0 hval0
  have hE := handle_of_laid hL
  refine (walk a0 len0 cap0 t0 W hE w0).mono fun e W' ⟨he, bel⟩ => ?_
  subst he
  exact ⟨_, rfl, _, _, _, [], _, [], hW', trodAll_mk1 (shut_bool Tryd.underlying4 _), (trodAll_cons_mk (Below.trod laidOut (by kernel_rfl) (of_decide_eq_true (by kernel_rfl)) k0 bel lt0) trodAll_mk0), rfl, bel.frame _, fun h => by cases h⟩

theorem over : Rows.bagPlaysRow.holds Tryd.pinned (OpenSpec.ofChange Rows.bagPlaysSpec) :=
  OpenClaim.holds_of_wide 3 Tryd.f3 rfl rfl rfl rfl rfl rfl rfl ⟨rfl, rfl, rfl, rfl, rfl⟩ rfl rfl rfl rfl rfl (by kernel_rfl) Tryd.func3 (by kernel_rfl)
    (of_decide_eq_true (by kernel_rfl)) (by unfold Func.isWrapper; first | (rw [if_pos (by decide +kernel)]; kernel_rfl) | (rw [if_neg (by decide +kernel)]; exact ⟨rfl, rfl⟩))
    (fun os started H enc _ => lifted os started H enc)

theorem card : Rows.BagPlaysCardSaid :=
  Claim7.holds_tied_plain_at .later [] [.handle] true (true, "20172553e1c08f8ebe8455d81d10071b9e3048dbf843d06a3494d3aa71de1a99") true
    over (fun _ h => by cases h) (by kernel_rfl) (fun _ h => by cases h) bagPlays_row_tie rfl ⟨rfl, rfl⟩ (by kernel_rfl) rfl
    (fun f fn hf hfn => by
      obtain rfl : f = 3 := Option.some.inj ((show Tryd.prog.funcNamed "wigwag/wigwaglaw03.BagPlays" = some 3 by kernel_rfl).symm.trans hf) |>.symm
      obtain rfl : fn = Tryd.f3 := (Option.some.inj (Tryd.func3.symm.trans hfn)).symm
      exact ⟨by kernel_rfl, fun j t ht => by
        rw [Tryd.params3] at ht
        have hall : ∀ t ∈ ([22] : List TypeId), Tryd.prog.wantsStandIn t = false := by
          intro t ht
          simp only [List.mem_cons, List.not_mem_nil, or_false] at ht
          subst ht; kernel_rfl
        exact hall t (by simpa using List.mem_of_getElem? (l := ([22] : List TypeId)) (i := j) (by simpa using ht))⟩)
    (by kernel_rfl)

end Go.Proofs.YtgbdnclolgdojaaDoor.bagPlays

namespace Go.Proofs.YtgbdnclolgdojaaDoor
/-- Proved: for every list of calls, BagPlays answers true (behind any 60 calls the bag has just the packets that it should), errors.errorType being laid as the program's text lays it (the card's tie, over the pruned copy). -/
theorem bagPlays_holds : Rows.BagPlaysCardSaid := bagPlays.card
#print axioms bagPlays_holds
end Go.Proofs.YtgbdnclolgdojaaDoor
