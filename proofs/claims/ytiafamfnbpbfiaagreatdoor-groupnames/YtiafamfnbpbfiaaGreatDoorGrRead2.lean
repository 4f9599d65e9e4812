/- group.Read of any text; what five tied variables give it. -/
import Derived.Test.YtiafamfnbpbfiaaGreatDoorGrRefN
import Derived.Test.YtiafamfnbpbfiaaGreatDoorGrDoor2
namespace Go.Proofs.YtiafamfnbpbfiaaGreatDoor
open Go.ChangeShapes Go.WideShapes Go.ChangeAt Go.RowKit Go.Extern.Stop Go.Stop Go.Extern
set_option linter.unusedVariables false

/-- strconv's table, and what its two errors hold. -/
structure GEnvS (w : World) : Prop where
  env : GEnv w
  syn : ∃ t v, w.cell? ⟨2, 0, none⟩ = some (.iface t v)
  rng : ∃ t v, w.cell? ⟨3, 0, none⟩ = some (.iface t v)
theorem GEnvS.below {w w' : World} (h : GEnvS w) (hb : Below w.heap.size w w') : GEnvS w' := by
  obtain ⟨t, v, h1⟩ := h.syn
  obtain ⟨t2, v2, h2⟩ := h.rng
  exact ⟨h.env.below hb, ⟨t, v, cell_grown h1 hb⟩, ⟨t2, v2, cell_grown h2 hb⟩⟩
set_option maxRecDepth 100000 in
/-- A variable of type error that holds a fault of the library's: its cell. -/
theorem iface_of_laidG {W : World} {n : String} {g : Nat} {nm : String} {d : DataW Unit} (hg : Tryz.prog.globalNamed n = some g) (hty : (Tryz.prog.globals[g]?).map (·.type) = some 26) (h : laidMet Tryz.prog [(n, .iface nm d)] W) :
    ∃ t v, W.cell? ⟨g, 0, none⟩ = some (.iface t v) := by
  obtain ⟨ps, ⟨g', t', cs, fuel, p, q, hg', ht', hvar, hd, _, _⟩, _⟩ := h
  obtain rfl := Option.some.inj (hg.symm.trans hg')
  obtain rfl := Option.some.inj (hty.symm.trans ht')
  have hc := World.var?_cell hg hvar 0
  have hu := Tryz.underlying26
  obtain ⟨l⟩ := cs
  cases fuel with
  | zero => unfold DataW.trod at hd; cases hd
  | succ fuel =>
    unfold DataW.trod at hd
    rw [hu] at hd
    match l, hd, hc with
    | [.iface t v], _, hc => exact ⟨t, v, by simpa using hc⟩
    | [.nilIface], hd, _ => simp at hd
set_option maxRecDepth 100000 in
theorem genvs_of_laid5 {W : World} (h : laidMetH Tryz.prog seatLaid5 W) : GEnvS W := by
  obtain ⟨h1, h2⟩ := laidMetH_iff.1 h
  have f2 := h1.filter (fun x => x.1 == "strconv.ErrSyntax")
  have f3 := h1.filter (fun x => x.1 == "strconv.ErrRange")
  have g2 : laidMet Tryz.prog [("strconv.ErrSyntax", Rows.laid_strconv_ErrSyntax)] W := f2
  have g3 : laidMet Tryz.prog [("strconv.ErrRange", Rows.laid_strconv_ErrRange)] W := f3
  exact ⟨genv_of_laid5 h, iface_of_laidG (by kernel_rfl) (by kernel_rfl) g2, iface_of_laidG (by kernel_rfl) (by kernel_rfl) g3⟩

theorem index_none : ∀ (l : List UInt8) (c : UInt8), c ∉ l → Lib.indexByte l c = -1
  | [], _, _ => rfl
  | b :: l, c, h => by
    have hb : (b == c) = false := by simpa using fun e => h (by simp [e])
    have ih := index_none l c (fun hh => h (by simp [hh]))
    simp only [Lib.indexByte, hb, ih]
    rfl
set_option maxRecDepth 100000 in
set_option maxHeartbeats 1000000 in
theorem cutd_no (s : ByteArray) (w : World) (hs : (46 : UInt8) ∉ s.data.toList) (hsz : s.size ≤ 1000000) :
    Calls Tryz.prog 25 #[.string s, .string ⟨#[46]⟩] w fun e w' => e = .returned (.tuple #[.string s, .string ⟨#[]⟩, .bool false]) ∧ Below w.heap.size w w' := by
  have hix := fun W => Tryz.stringslite_Index_one s 46 W
  rw [index_none _ _ hs] at hix
  have HIX : Hid _ := hix
  have H51 : Calls Tryz.prog 55 #[.string s, .string ⟨#[46]⟩] w fun e w' => e = .returned (.tuple #[.string s, .string ⟨#[]⟩, .bool false]) ∧ Below w.heap.size w w' := by
    clear hix hs
    go_enter Tryz.func55, Tryz.ntmps55
    go_wp2_with fail
    refine Calls.mono (HIX.out _) ?_
    rintro e w' ⟨rfl, hw'⟩
    subst w'
    go_wp2
    exact bodyPost_ret (v := .tuple #[.string s, .string ⟨#[]⟩, .bool false]) (by simp [results, Tryz.results55, go_sem]) rfl ⟨rfl, Below.refl _ _⟩
  have H : Hid _ := H51
  clear hs hix HIX H51
  go_enter Tryz.func25, Tryz.ntmps25
  go_wp2_with fail
  refine Calls.mono H.out ?_
  rintro e w1 ⟨rfl, b1⟩
  have HB : Hid (Below w.heap.size w w1) := b1
  clear b1
  go_wp2
  exact bodyPost_ret (v := .tuple #[.string s, .string ⟨#[]⟩, .bool false]) (by simp [results, Tryz.results25, go_sem]) rfl ⟨rfl, HB.out⟩
theorem cutd_some (s : ByteArray) (w : World) (hs : s.size ≤ 1000) :
    Calls Tryz.prog 25 #[.string s, .string ⟨#[46]⟩] w fun e w' => ∃ (a b : ByteArray) (f : Bool), e = .returned (.tuple #[.string a, .string b, .bool f]) ∧ a.size ≤ 1000 ∧ b.size ≤ 1000 ∧ Below w.heap.size w w' := by
  by_cases h : (46 : UInt8) ∈ s.data.toList
  · obtain ⟨p, r, hl, hp⟩ := List.eq_append_cons_of_mem h
    have hlen : s.size = p.length + 1 + r.length := by
      have : s.data.toList.length = p.length + (r.length + 1) := by rw [hl]; simp
      have h2 : s.size = s.data.toList.length := by simp
      omega
    refine (cutd_any s p r w hl hp (by omega)).mono ?_
    rintro e w' ⟨rfl, hb⟩
    refine ⟨_, _, _, rfl, ?_, ?_, hb⟩
    · show p.toArray.size ≤ _; simp; omega
    · show r.toArray.size ≤ _; simp; omega
  · refine (cutd_no s w h (by omega)).mono ?_
    rintro e w' ⟨rfl, hb⟩
    exact ⟨_, _, _, rfl, hs, by show (#[] : Array UInt8).size ≤ _; simp, hb⟩
theorem atoi_bdG {l : List UInt8} {v : Int} (h : Lib.atoiAll l = .ok v) : i64 v := by
  unfold Lib.atoiAll at h
  unfold i64
  split at h
  · cases h
  · simp only at h
    split at h
    · cases h
    · cases h
    · rename_i u hu
      split at h
      · cases h
      · rename_i n1
        split at h
        · cases h
        · rename_i n2
          injection h with h
          subst h
          split <;> rename_i n3
          · have : ¬ 9223372036854775808 < u := fun hh => n2 ⟨n3, hh⟩
            omega
          · have : ¬ 9223372036854775808 ≤ u := fun hh => n1 ⟨n3, hh⟩
            omega
theorem atoi_some (s : ByteArray) (w : World) (E : GEnvS w) (hs : s.size ≤ 1000) :
    Calls Tryz.prog 26 #[.string s] w fun e w' => ∃ (v : Int) (er : Value), e = .returned (.tuple #[.int .i64 v, er]) ∧ i64 v ∧ Below w.heap.size w w' := by
  cases hA : Lib.atoiAll s.data.toList with
  | ok v =>
    refine (Tryz.strconv_Atoi_ok s (by omega) v hA w).mono ?_
    rintro e w' ⟨rfl, hw⟩
    refine ⟨v, _, rfl, atoi_bdG hA, ?_⟩
    rcases hw with rfl | ⟨t, rfl⟩
    · exact Below.refl _ _
    · exact Lib.bytesWorld_below _ _ _
  | «syntax» =>
    obtain ⟨t, v, hv⟩ := E.syn
    refine (Tryz.strconv_Atoi_syntax s (by omega) hA _ w hv (Or.inr ⟨_, _, rfl⟩)).mono ?_
    rintro e w' ⟨N, rfl, _, _, hb⟩
    exact ⟨0, _, rfl, by unfold i64; omega, hb⟩
  | range =>
    obtain ⟨t, v, hv⟩ := E.rng
    refine (Tryz.strconv_Atoi_range s (by omega) hA _ w hv (Or.inr ⟨_, _, rfl⟩)).mono ?_
    rintro e w' ⟨N, rfl, _, _, hb⟩
    exact ⟨_, _, rfl, by unfold i64 Lib.atoiSat; split <;> omega, hb⟩

set_option maxRecDepth 100000 in
set_option maxHeartbeats 4000000 in
theorem read_none (s : ByteArray) (L : Int) (w : World) (hE : GEnvS w) (hs : s.size ≤ 1000) (hno : ¬ GName s L) :
    Calls Tryz.prog 6 #[.string s, .int .i64 L] w fun e w' => e = .returned (.tuple #[.string ⟨#[]⟩, .agg #[.int .i64 0, .int .i64 0], .iface 40 (.int .i64 11)]) ∧ Below w.heap.size w w' := by
  have HE : Hid (GEnvS w) := hE
  have HNO : Hid (¬ GName s L) := hno
  clear hE hno
  go_enter Tryz.func6, Tryz.ntmps6
  go_wp2_with fail
  refine Calls.mono (cutd_some s _ hs) ?_
  rintro e W1 ⟨a, b, f, rfl, ha, hb, b1⟩
  have z0 := b1.block w.heap.size (by simp)
  rw [heap_alloc_new] at z0
  have B1 : Hid (Below w.heap.size w W1) := (dbel1 _ _).trans (b1.mono (by simp))
  have Z1 : Hid (W1.heap[w.heap.size]? = some (.cells #[.int .i64 0, .int .i64 0] 23 (0, 0)) ∧ w.heap.size < W1.heap.size) := ⟨z0, lt_of_block z0⟩
  clear b1 z0
  go_wp2_with fail
  refine Calls.mono (cutd_some b _ hb) ?_
  rintro e W2 ⟨c, d, f2, rfl, hc, hd, b2⟩
  have B2 : Hid (Below w.heap.size w W2) := B1.out.trans (b2.mono B1.out.size)
  have Z2 : Hid (W2.heap[w.heap.size]? = some (.cells #[.int .i64 0, .int .i64 0] 23 (0, 0))) := (b2.block _ Z1.out.2).trans Z1.out.1
  clear b2 B1 Z1
  go_wp2_with fail
  refine Calls.mono (atoi_some c _ (HE.out.below B2.out) hc) ?_
  rintro e W3 ⟨l, er1, rfl, hl, b3⟩
  have B3 : Hid (Below w.heap.size w W3) := B2.out.trans (b3.mono B2.out.size)
  have Z3 : Hid (W3.heap[w.heap.size]? = some (.cells #[.int .i64 0, .int .i64 0] 23 (0, 0))) := (b3.block _ (lt_of_block Z2.out)).trans Z2.out
  clear b3 B2 Z2
  go_wp2_with fail
  refine Calls.mono (atoi_some d _ (HE.out.below B3.out) hd) ?_
  rintro e W4 ⟨i, er2, rfl, hi, b4⟩
  have B4 : Hid (Below w.heap.size w W4) := B3.out.trans (b4.mono B3.out.size)
  have Z4 : Hid (W4.heap[w.heap.size]? = some (.cells #[.int .i64 0, .int .i64 0] 23 (0, 0))) := (b4.block _ (lt_of_block Z3.out)).trans Z3.out
  have HL : Hid (i64 l ∧ i64 i) := ⟨hl, hi⟩
  clear b4 B3 Z3 hl hi
  go_wp2_with fail
  refine Calls.mono (name_any a _ (by unfold maxLen; omega)) ?_
  rintro e W5 ⟨⟨bb, rfl, hbb⟩, hw5⟩
  have hlt4 := lt_of_block Z4.out
  have HBB : Hid (bb = true ↔ NameOk a) := hbb
  have z5 : W5.heap[w.heap.size]? = some (.cells #[.int .i64 0, .int .i64 0] 23 (0, 0)) := by rw [hw5]; exact (Below.heap_alloc _ _ _ hlt4).trans Z4.out
  have k5 : W5.heap[W4.heap.size]? = some (.cells #[.int .i64 l, .int .i64 i] 23 (0, 0)) := by rw [hw5]; exact heap_alloc_new W4 _
  have B5 : Hid (Below w.heap.size w W5) := by rw [Hid, hw5]; exact B4.out.trans ((dbel1 _ _).mono B4.out.size)
  have K5 : Hid (W5.heap[W4.heap.size]? = some (.cells #[.int .i64 l, .int .i64 i] 23 (0, 0)) ∧ W5.heap[w.heap.size]? = some (.cells #[.int .i64 0, .int .i64 0] 23 (0, 0))) := ⟨k5, z5⟩
  clear hw5 hbb B4 Z4 hlt4 z5 k5
  cases bb with
  | false =>
    have z7 := K5.out.2
    have f0 := box_cell (j := 0) z7 (by simp)
    have f1 := box_cell (j := 1) z7 (by simp)
    have ff : ∀ o, W5.frozen? ⟨w.heap.size, o, none⟩ = false := fun o => by simp [World.frozen?, z7]
    have fl := lt_of_block z7
    simp at f0 f1
    clear z7
    go_wp2_with fail
    refine bodyPost_ret (v := .tuple #[.string ⟨#[]⟩, .agg #[.int .i64 0, .int .i64 0], .iface 40 (.int .i64 11)]) (by simp [results, Tryz.results6, go_sem, *]) rfl ⟨rfl, ?_⟩
    exact (B5.out.setCell (by simp) _).setCell (by simp) _
  | true =>
    have HNM : Hid (NameOk a) := HBB.out.1 rfl
    have d0 := box_cell (j := 0) K5.out.1 (by simp)
    have d1 := box_cell (j := 1) K5.out.1 (by simp)
    simp at d0 d1
    have dl := lt_of_block K5.out.1
    clear HBB
    by_cases hg : (Iv.mk l i).good L
    · have HG : Hid ((Iv.mk l i).good L) := hg
      clear hg
      go_wp2_with fail
      refine Calls.mono (good_yes ⟨l, i⟩ L _ HG.out) ?_
      rintro e W6 ⟨rfl, b6⟩
      have K6 : Hid (W6.heap[W4.heap.size]? = some (.cells #[.int .i64 l, .int .i64 i] 23 (0, 0)) ∧ W6.heap[w.heap.size]? = some (.cells #[.int .i64 0, .int .i64 0] 23 (0, 0))) := ⟨(b6.block _ (lt_of_block K5.out.1)).trans K5.out.1, (b6.block _ (lt_of_block K5.out.2)).trans K5.out.2⟩
      have B6 : Hid (Below w.heap.size w W6) := B5.out.trans (b6.mono B5.out.size)
      clear d0 d1 dl b6 B5 K5
      have d0 := box_cell (j := 0) K6.out.1 (by simp)
      have d1 := box_cell (j := 1) K6.out.1 (by simp)
      simp at d0 d1
      have dl := lt_of_block K6.out.1
      go_wp2_with fail
      refine Calls.mono (name_of a ⟨l, i⟩ _ (HE.out.below B6.out).env (by omega) HL.out.1 HL.out.2) ?_
      rintro e W7 ⟨rfl, b7⟩
      have hne : gname a ⟨l, i⟩ ≠ s := fun e => by
        obtain ⟨l', i', n, e1, e2, h1, h2, h3⟩ := Iv.good_nat HG.out
        rw [e1] at e
        exact HNO.out ⟨a, l', i', n, e2, HNM.out, h1, h2, h3, e⟩
      have B7 : Hid (Below w.heap.size w W7) := B6.out.trans (b7.mono B6.out.size)
      have z7 := (b7.block _ (lt_of_block K6.out.2)).trans K6.out.2
      have f0 := box_cell (j := 0) z7 (by simp)
      have f1 := box_cell (j := 1) z7 (by simp)
      have ff : ∀ o, W7.frozen? ⟨w.heap.size, o, none⟩ = false := fun o => by simp [World.frozen?, z7]
      have fl := lt_of_block z7
      simp at f0 f1
      generalize gname a ⟨l, i⟩ = t at hne ⊢
      have hx1 : t.toList ≠ s.toList := fun h => hne (toList_inj.1 h)
      have hx2 : (t.toList == s.toList) = false := by simpa using hx1
      clear z7 b7 d0 d1 dl K6 B6 hne
      go_wp2_with fail
      refine bodyPost_ret (v := .tuple #[.string ⟨#[]⟩, .agg #[.int .i64 0, .int .i64 0], .iface 40 (.int .i64 11)]) (by simp [results, Tryz.results6, go_sem, *]) rfl ⟨rfl, ?_⟩
      exact (B7.out.setCell (by simp) _).setCell (by simp) _
    · have HG : Hid (¬ (Iv.mk l i).good L) := hg
      clear hg
      go_wp2_with fail
      refine Calls.mono (good_no ⟨l, i⟩ L _ HG.out) ?_
      rintro e W6 ⟨rfl, b6⟩
      have B6 : Hid (Below w.heap.size w W6) := B5.out.trans (b6.mono B5.out.size)
      have z7 := (b6.block _ (lt_of_block K5.out.2)).trans K5.out.2
      have f0 := box_cell (j := 0) z7 (by simp)
      have f1 := box_cell (j := 1) z7 (by simp)
      have ff : ∀ o, W6.frozen? ⟨w.heap.size, o, none⟩ = false := fun o => by simp [World.frozen?, z7]
      have fl := lt_of_block z7
      simp at f0 f1
      clear z7 b6 d0 d1 dl K5 B5
      go_wp2_with fail
      refine bodyPost_ret (v := .tuple #[.string ⟨#[]⟩, .agg #[.int .i64 0, .int .i64 0], .iface 40 (.int .i64 11)]) (by simp [results, Tryz.results6, go_sem, *]) rfl ⟨rfl, ?_⟩
      exact (B6.out.setCell (by simp) _).setCell (by simp) _
end Go.Proofs.YtiafamfnbpbfiaaGreatDoor
