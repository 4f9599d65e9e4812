/- What five tied variables give a walk: strconv's table, and its two errors. -/
import Derived.Test.YtcckoncgfmbhiabGreatDoorFilMark2
import Derived.Test.YtcckoncgfmbhiabGreatDoorTie
import Derived.Test.YtcckoncgfmbhiabGreatDoorCards
import Derived.LaidLaws
import Derived.LaidHandle
import Derived.LaidSub
import Derived.Lib.LaidTab
import Derived.Stop.Joined
import Derived.Test.YtcckoncgfmbhiabGreatDoorAsked
namespace Go.Proofs.YtcckoncgfmbhiabGreatDoor
open Go.ChangeShapes Go.WideShapes Go.ChangeAt Go.RowKit Go.Extern.Stop Go.Stop Go.Extern
set_option linter.unusedVariables false

abbrev seatLaid5 : List (String × DataW Unit) := [("math/bits.deBruijn32tab", Rows.laid_math_bits_deBruijn32tab), ("math/bits.deBruijn64tab", Rows.laid_math_bits_deBruijn64tab), ("internal/strconv.uint64pow10", Rows.laid_internal_strconv_uint64pow10), ("strconv.ErrRange", Rows.laid_strconv_ErrRange), ("strconv.ErrSyntax", Rows.laid_strconv_ErrSyntax)]
theorem cell_lt5 {w : World} {g : Nat} {v : Value} (h : w.cell? ⟨g, 0, none⟩ = some v) : g < w.heap.size := by
  rcases Nat.lt_or_ge g w.heap.size with q | q
  · exact q
  · simp [World.cell?, Array.getElem?_eq_none q] at h
set_option maxRecDepth 100000 in
/-- A variable of type error that holds a fault of the library's: its cell. -/
theorem iface_of_laid5 {W : World} {n : String} {g : Nat} {nm : String} {d : DataW Unit} (hg : Tryz.prog.globalNamed n = some g) (hty : (Tryz.prog.globals[g]?).map (·.type) = some 39) (h : laidMet Tryz.prog [(n, .iface nm d)] W) :
    ∃ t v, W.cell? ⟨g, 0, none⟩ = some (.iface t v) := by
  obtain ⟨ps, ⟨g', t', cs, fuel, p, q, hg', ht', hvar, hd, _, _⟩, _⟩ := h
  obtain rfl := Option.some.inj (hg.symm.trans hg')
  obtain rfl := Option.some.inj (hty.symm.trans ht')
  have hc := World.var?_cell hg hvar 0
  have hu := Tryz.underlying39
  obtain ⟨l⟩ := cs
  cases fuel with
  | zero => unfold DataW.trod at hd; cases hd
  | succ fuel =>
    unfold DataW.trod at hd
    rw [hu] at hd
    match l, hd, hc with
    | [.iface t v], _, hc => exact ⟨t, v, by simpa using hc⟩
    | [.nilIface], hd, _ => simp at hd
set_option maxRecDepth 100000 in
theorem genv_of_laid5 {W : World} (h : laidMetH Tryz.prog seatLaid5 W) : Env W := by
  obtain ⟨h1, h2⟩ := laidMetH_iff.1 h
  have f1 := h1.filter (fun x => x.1 == "internal/strconv.uint64pow10")
  have f2 := h1.filter (fun x => x.1 == "strconv.ErrSyntax")
  have f3 := h1.filter (fun x => x.1 == "strconv.ErrRange")
  have f4 := h1.filter (fun x => x.1 == "math/bits.deBruijn64tab")
  have g1 : laidMet Tryz.prog [("internal/strconv.uint64pow10", Lib.tabData .u64 Lib.pow10Tab)] W := f1
  have g2 : laidMet Tryz.prog [("strconv.ErrSyntax", Rows.laid_strconv_ErrSyntax)] W := f2
  have g3 : laidMet Tryz.prog [("strconv.ErrRange", Rows.laid_strconv_ErrRange)] W := f3
  have g4 : laidMet Tryz.prog [("math/bits.deBruijn64tab", Rows.laid_math_bits_deBruijn64tab)] W := f4
  refine ⟨?_, iface_of_laid5 (by kernel_rfl) (by kernel_rfl) g2, iface_of_laid5 (by kernel_rfl) (by kernel_rfl) g3, ?_⟩
  · exact Lib.tabIs_of_head (P := Tryz.prog) (g := 1) (by kernel_rfl) (t := 132) (by kernel_rfl) Tryz.underlying132 Tryz.underlying124 (by kernel_rfl) (by kernel_rfl) g1
  · obtain ⟨ps, ⟨g', t', cs, fuel, p, q, hg', ht', hvar, hd, _, _⟩, _⟩ := g4
    have hgg : Tryz.prog.globalNamed "math/bits.deBruijn64tab" = some 5 := by kernel_rfl
    unfold World.var? at hvar
    rw [hgg] at hvar
    simp only [Option.bind_some] at hvar
    have hlt : 5 < W.heap.size := by
      rcases Nat.lt_or_ge 5 W.heap.size with q | q
      · exact q
      · rw [Array.getElem?_eq_none q] at hvar; simp at hvar
    obtain ⟨_, _, h3⟩ := iface_of_laid5 (g := 3) (by kernel_rfl) (by kernel_rfl) g3
    have hl3 : 3 < W.heap.size := cell_lt5 h3
    omega
/-- A world in which the variables hold what they should: that there is one. -/
def litCells : DataW Unit → Array Value
  | .agg ps => (ps.map fun | .lit (.int k n) => Value.int k n | _ => Value.nilIface).toArray
  | _ => #[]
def setB (h : Array Obj) (g : Nat) (cs : Array Value) : Array Obj := h.modify g fun | .cells _ t frozen => .cells cs t frozen | o => o
def witHeap5 (h : Array Obj) : Array Obj :=
  ((setB (setB (setB (setB (setB h 2 #[.iface 152 (.pointer (some ⟨h.size, 0, none⟩))]) 3 #[.iface 152 (.pointer (some ⟨h.size + 1, 0, none⟩))])
    1 (litCells Rows.laid_internal_strconv_uint64pow10)) 4 (litCells Rows.laid_math_bits_deBruijn32tab)) 5 (litCells Rows.laid_math_bits_deBruijn64tab)).push
      (.cells #[.string ⟨#[105, 110, 118, 97, 108, 105, 100, 32, 115, 121, 110, 116, 97, 120]⟩] 154)).push (.cells #[.string ⟨#[118, 97, 108, 117, 101, 32, 111, 117, 116, 32, 111, 102, 32, 114, 97, 110, 103, 101]⟩] 154)
theorem wit_laid5 (os : Os) : laidMetH Tryz.prog seatLaid5 { World.holding Tryz.prog os ⟨#[], #[], []⟩ with heap := witHeap5 (World.holding Tryz.prog os ⟨#[], #[], []⟩).heap } :=
  laidMetH_of_parts (laidMet_of_run' 8 (by kernel_rfl) (by kernel_rfl)) (by kernel_rfl)
end Go.Proofs.YtcckoncgfmbhiabGreatDoor

/- wigwagtop.WigwagAsked, walked. -/
namespace Go.Proofs.YtcckoncgfmbhiabGreatDoor
open Go.ChangeShapes Go.WideShapes Go.ChangeAt Go.RowKit
set_option linter.unusedVariables false

set_option maxRecDepth 100000 in
set_option maxHeartbeats 8000000 in
theorem asked_walk (a0 : Option Addr) (len0 cap0 : Nat) (t0 : List At) (a1 : Option Addr) (len1 cap1 : Nat) (t1 : List Pd) (a2 : Option Addr) (len2 cap2 : Nat) (t2 : List Vl) (s2 : ByteArray) (w : World) (hE : Env w) (w0 : InRow 4 At.cells At.ok at0 w a0 len0 t0) (w1 : InRow 5 Pd.cells Pd.ok pd0 w a1 len1 t1) (w2 : InRow 2 Vl.cells Vl.ok vl0 w a2 len2 t2) (z2 : s2.size ≤ maxLen) :
    Calls Tryz.prog 3 #[.slice a0 len0 cap0, .slice a1 len1 cap1, .agg #[.slice a2 len2 cap2, .string s2]] w fun e w' => e = .returned (.bool true) ∧ Below w.heap.size w w' := by
  obtain ⟨L, hL⟩ : ∃ L, L = (t0.take 6).map cutA := ⟨_, rfl⟩
  obtain ⟨G, hG⟩ : ∃ G, G = (t1.take 6).map cutP := ⟨_, rfl⟩
  obtain ⟨V, hV⟩ : ∃ V, V = (t2.take 6).map cutV := ⟨_, rfl⟩
  obtain ⟨pay, hpay⟩ : ∃ pay, pay = cut s2 210 := ⟨_, rfl⟩
  have lL : L.length ≤ 6 := by rw [hL]; simp; omega
  have lG : G.length ≤ 6 := by rw [hG]; simp; omega
  have lV : V.length ≤ 6 := by rw [hV]; simp; omega
  have SL : Hid (∀ i, i < L.length → (L.getD i at0).name.size ≤ maxLen) := by rw [hL]; exact fun i hi => Nat.le_trans (az_cutA t0 i hi) (by unfold maxLen; omega)
  have SG : Hid (∀ i, i < G.length → (G.getD i pd0).str.size ≤ maxLen) := by rw [hG]; exact fun i hi => Nat.le_trans (az_cutP t1 i hi) (by unfold maxLen; omega)
  have SV : Hid (∀ i, i < V.length → (V.getD i vl0).str.size ≤ maxLen) := by rw [hV]; exact fun i hi => Nat.le_trans (az_cutV t2 i hi) (by unfold maxLen; omega)
  have SP : Hid (pay.size ≤ maxLen) := by
    have := cut_size s2 210
    show pay.size ≤ maxLen
    rw [hpay]; unfold maxLen; omega
  have hc1 := attrs_any a0 len0 cap0 t0 (w.alloc (.cells #[.slice a2 len2 cap2, .string s2] 28)) (w0.below (Nat.le_refl _) (below1 _ _))
  rw [← hL] at hc1
  have HV : Hid (V = (t2.take 6).map cutV) := hV
  have HY : Hid (pay = cut s2 210) := hpay
  have HG : Hid (G = (t1.take 6).map cutP) := hG
  have HW1 : Hid (InRow 5 Pd.cells Pd.ok pd0 w a1 len1 t1 ∧ InRow 2 Vl.cells Vl.ok vl0 w a2 len2 t2) := ⟨w1, w2⟩
  have HE : Hid (Env w) := hE
  clear hL hV hpay hG w0 w1 w2 hE
  go_enter Tryz.func3, Tryz.ntmps3
  go_wp2_with fail
  refine hc1.mono ?_
  rintro e W1 ⟨sl, v2, rfl, R1⟩
  clear hc1
  have A1 : Hid (AtIn W1 sl L) := AtIn.ofOwn R1.r1
  have bb := R1.bel
  have B1 : Hid (Below w.heap.size w W1) := (below1 _ _).trans (bb.mono (by simp))
  have y0 : W1.cell? ⟨w.heap.size, 0, none⟩ = some (.slice a2 len2 cap2) := (bb.cell (p := ⟨w.heap.size, 0, none⟩) (by simp)).trans (by simp)
  have y1 : W1.cell? ⟨w.heap.size, 1, none⟩ = some (.string s2) := (bb.cell (p := ⟨w.heap.size, 1, none⟩) (by simp)).trans (by simp)
  clear R1 bb
  have hc2 := preds_any a1 len1 cap1 t1 W1 (InRow.below HW1.out.1 (Nat.le_refl _) B1.out)
  rw [← HG.out] at hc2
  go_wp2_with fail
  refine hc2.mono ?_
  rintro e W2 ⟨gl, p2, rfl, R2⟩
  clear hc2
  have b2 := R2.bel
  have B2 : Hid (Below w.heap.size w W2) := B1.out.trans (b2.mono B1.out.size)
  have A2 : Hid (AtIn W2 sl L ∧ PdIn W2 gl G) := ⟨A1.out.below b2, PdIn.ofOwn R2.r1⟩
  have x0 := cell_grown y0 b2
  have x1 := cell_grown y1 b2
  have xl : w.heap.size < W2.heap.size := cell_block x0
  clear R2 b2 A1 B1 y0 y1
  have hc3 := ev_any a2 len2 cap2 s2 t2 W2 (InRow.below HW1.out.2 (Nat.le_refl _) B2.out) z2
  rw [← HV.out, ← HY.out] at hc3
  go_wp2_with fail
  refine hc3.mono ?_
  rintro e W3 ⟨ul, u2, rfl, r1, _, _, b3⟩
  clear hc3
  obtain ⟨aw, cw, hul⟩ := own_shapeA r1
  subst hul
  obtain ⟨W4, hW4⟩ : ∃ W4, W4 = W3.alloc (.cells #[.slice aw V.length cw, .string pay] 28) := ⟨_, rfl⟩
  have b4 : Below W3.heap.size W3 W4 := by rw [hW4]; exact below1 _ _
  have b34 := b3.trans (b4.mono b3.size)
  have M4 : Hid (Ma w W4 sl gl (.slice aw V.length cw) L G V W3.heap.size pay) :=
    ⟨A2.out.1.below b34, A2.out.2.below b34, (VlIn.ofOwn r1).below b4, by rw [hW4]; simp, by rw [hW4]; simp, HE.out.below (B2.out.trans (b34.mono B2.out.size)) HE.out.lt, B2.out.trans (b34.mono B2.out.size)⟩
  clear r1 b3 b4 b34 x0 x1 xl A2 B2 HW1
  go_wp2_with fail
  rw [← hW4]
  clear hW4
  generalize W3.heap.size = eb at *
  generalize Value.slice aw V.length cw = ul at *
  refine Calls.mono (parse_any _ _ M4.out.env (by decide)) ?_
  rintro e W5 ⟨hA, b5⟩
  obtain ⟨pb, pr, hp3⟩ := pars_03
  obtain ⟨N, rfl, _⟩ := hA.fail (by decide) hp3
  have M5 : Hid (Ma w W5 sl gl ul L G V eb pay) := M4.out.below b5
  clear hA b5 hp3 M4
  go_wp2_with fail
  refine Calls.mono (check_any sl L _ M5.out.at_ (by omega) SL.out) ?_
  rintro e W6 ⟨hES, b6⟩
  have M6 : Hid (Ma w W6 sl gl ul L G V eb pay) := M5.out.below b6
  clear b6 M5
  by_cases hSO : SchemaOk L
  case neg =>
    obtain ⟨b, rfl⟩ := hES.f hSO
    clear hES hSO
    go_wp2
    go_ret
    exact ⟨rfl, M6.out.bel⟩
  have := hES.t hSO
  subst this
  have HSO : Hid (SchemaOk L) := hSO
  clear hES hSO
  go_wp2_with fail
  refine Calls.mono (filter_any sl gl L G _ M6.out.at_ M6.out.pd (by omega) (by omega) SG.out) ?_
  rintro e W7 ⟨hEF, b7⟩
  have M7 : Hid (Ma w W7 sl gl ul L G V eb pay) := M6.out.below b7
  clear b7 M6
  by_cases hFO : FilterOk L G
  case neg =>
    obtain ⟨b, rfl⟩ := hEF.f hFO
    clear hEF hFO
    go_wp2
    go_ret
    exact ⟨rfl, M7.out.bel⟩
  have := hEF.t hFO
  subst this
  have HFO : Hid (FilterOk L G) := hFO
  clear hEF hFO
  have HPR : Hid (∀ q ∈ G.map plOf, PrnL q) := prn_of HSO.out HFO.out
  have hgl : 1 ≤ G.length := HFO.out.1
  have HNE : Hid (G.map plOf ≠ []) := fun e => by
    have h0 : (G.map plOf).length = 0 := by rw [e]; rfl
    rw [List.length_map] at h0
    omega
  have HLQ : Hid ((G.map plOf).length ≤ 100) := by rw [Hid, List.length_map]; omega
  have HRB : Hid (∀ (W : World), Env W → AtIn W sl L → (ba (pF (G.map plOf))).size ≤ 300 → Calls Tryz.prog 11 #[sl, .string (ba (pF (G.map plOf)))] W fun e w' => ∃ u, e = .returned (.tuple #[u, .nilIface]) ∧ PlIn w' u (G.map plOf) ∧ Below W.heap.size W w') := fun W E hA ht => read_back sl L G W E hA HSO.out HFO.out ht
  have HPT : Hid (∀ (W : World) (v : Value), Env W → PlIn W v (G.map plOf) → Calls Tryz.prog 10 #[v] W fun e w' => e = .returned (.string (ba (pF (G.map plOf)))) ∧ Below W.heap.size W w') := fun W v E h => print_any v (G.map plOf) W E h HNE.out HLQ.out HPR.out
  have hsz : (ba (pF (G.map plOf))).size ≤ 100000 := by
    rw [ba_size]
    have := pF_le (G.map plOf) HPR.out
    rw [List.length_map] at this
    omega
  have HTS : Hid ((ba (pF (G.map plOf))).size = (pF (G.map plOf)).length) := ba_size _
  generalize ba (pF (G.map plOf)) = t at HRB HPT hsz HTS
  go_wp2_with fail
  refine Calls.mono (HPT.out _ _ M7.out.env (PlIn.ofPd M7.out.pd)) ?_
  rintro e W8 ⟨rfl, b8⟩
  have M8 : Hid (Ma w W8 sl gl ul L G V eb pay) := M7.out.below b8
  clear b8 M7
  by_cases ht : 300 < t.size
  case pos =>
    go_wp2
    go_ret
    exact ⟨rfl, M8.out.bel⟩
  have ht' : t.size ≤ 300 := by omega
  have hdt : decide ((300 : Int) < (t.size : Int)) = false := by simp; omega
  go_wp2_with fail
  refine Calls.mono (HPT.out _ _ M8.out.env (PlIn.ofPd M8.out.pd)) ?_
  rintro e W9 ⟨rfl, b9⟩
  have M9 : Hid (Ma w W9 sl gl ul L G V eb pay) := M8.out.below b9
  clear b9 M8
  go_wp2_with fail
  refine Calls.mono (HRB.out _ M9.out.env M9.out.at_ ht') ?_
  rintro e W10 ⟨u, rfl, hu, b10⟩
  have M10 : Hid (Ma w W10 sl gl ul L G V eb pay ∧ PlIn W10 u (G.map plOf)) := ⟨M9.out.below b10, hu⟩
  clear b10 hu M9 HRB HPT
  obtain ⟨mb, hmb⟩ : ∃ b : Bool, (b = true ↔ MatchOk L G V pay.size) := ⟨@decide (MatchOk L G V pay.size) (Classical.propDecidable _), @decide_eq_true_iff _ (Classical.propDecidable _)⟩
  have HMB : Hid (mb = true ↔ MatchOk L G V pay.size) := hmb
  clear hmb
  have HMT : Hid (∀ (W : World) (v : Value), Ma w W sl gl ul L G V eb pay → PdIn W v G → Calls Tryz.prog 12 #[sl, v, .agg #[ul, .string pay]] W fun e w' => e = .returned (.bool mb) ∧ Below W.heap.size W w') := fun W v M hP => by
    refine (match_any sl v ul L G V pay W M.at_ hP M.vl (by omega) (by omega) (by omega) SP.out SG.out SV.out).mono ?_
    rintro e w' ⟨hS, hb⟩
    exact ⟨says_is hS HMB.out, hb⟩
  obtain ⟨ι, F, _, hF0, hFb, hFc⟩ := grown_fam W10
  have HMF : Hid (∀ i, Ma w (F i) sl gl ul L G V eb pay ∧ PlIn (F i) u (G.map plOf)) := fun i => ⟨M10.out.1.below (hFb i), M10.out.2.below (hFb i)⟩
  have c0 : ∀ i, (F i).cell? ⟨eb, 0, none⟩ = some ul := fun i => (HMF.out i).1.c0
  have c1 : ∀ i, (F i).cell? ⟨eb, 1, none⟩ = some (.string pay) := fun i => (HMF.out i).1.c1
  have HF : Hid ((∃ i, { W10 with drawn := W10.drawn + 1 } = F i) ∧ (∀ i, Below W10.heap.size W10 (F i)) ∧ (∀ i W, Below W10.heap.size (F i) W → ∃ j, W = F j)) := ⟨hF0, hFb, hFc⟩
  have KH : Hid (∀ i, Calls Tryz.prog 12 #[sl, u, .agg #[ul, .string pay]] (F i) fun e w' => e = .returned (.bool mb) ∧ Below (F i).heap.size (F i) w') := fun i => HMT.out _ _ (HMF.out i).1 (by have := PdIn.ofPl (HMF.out i).2; rw [map_back] at this; exact this)
  have KG : Hid (∀ i, Calls Tryz.prog 12 #[sl, gl, .agg #[ul, .string pay]] (F i) fun e w' => e = .returned (.bool mb) ∧ Below (F i).heap.size (F i) w') := fun i => HMT.out _ _ (HMF.out i).1 (HMF.out i).1.pd
  have m1 : (mb == mb) = true := by simp
  have m2 : (mb != mb) = false := by simp
  clear hF0 hFb hFc
  go_wp2_with fail
  refine wp_region_fam F HF.out.1 (by kernel_rfl) (by kernel_rfl) ?_
  repeat (go_big_quiet_step (first
    | (go_at_call_of 12 u; refine Calls.mono (KH.out _) ?_; rintro e' w' ⟨hs, hb⟩; exact ⟨hs, HF.out.2.2 _ _ (hb.mono (HF.out.2.1 _).size)⟩)
    | (go_at_call_of 12 gl; refine Calls.mono (KG.out _) ?_; rintro e' w' ⟨hs, hb⟩; exact ⟨hs, HF.out.2.2 _ _ (hb.mono (HF.out.2.1 _).size)⟩)))
  refine wpQuiet_nil ?_
  rintro _ ⟨fi, rfl⟩
  have M11 : Hid (Ma w (F fi) sl gl ul L G V eb pay ∧ PlIn (F fi) u (G.map plOf)) := HMF.out fi
  generalize F fi = W11 at M11 ⊢
  clear HMF HF KH KG c0 c1 M10
  have c0 := M11.out.1.c0
  have c1 := M11.out.1.c1
  obtain ⟨au, cu, hu, _⟩ := M11.out.2.shape
  rw [List.length_map] at hu
  subst hu
  go_wp2_with fail
  refine Calls.mono (event_any sl ul L V pay _ M11.out.1.at_ M11.out.1.vl (by omega) (by omega) SP.out SV.out) ?_
  rintro e W12 ⟨hEV, b12⟩
  have M12 : Hid (Ma w W12 sl gl ul L G V eb pay ∧ PlIn W12 (.slice au G.length cu) (G.map plOf)) := ⟨M11.out.1.below b12, M11.out.2.below b12⟩
  clear b12 M11 c0 c1
  obtain ⟨ev, er, he, hev, hnil⟩ : ∃ (ev : Bool) (er : Value), e = .returned er ∧ (ev = true ↔ AllTo L G V pay.size 0) ∧ ((ev = true ∧ er = .nilIface) ∨ (ev = false ∧ ∃ b, er = .iface 59 (.pointer (some ⟨b, 0, none⟩)))) := by
    by_cases h : EventOk L V pay.size
    · exact ⟨true, _, hEV.t h, ⟨fun _ => ⟨h, fun j hj => absurd hj (Nat.not_lt_zero _)⟩, fun _ => rfl⟩, Or.inl ⟨rfl, rfl⟩⟩
    · obtain ⟨b, hb⟩ := hEV.f h
      exact ⟨false, _, hb, ⟨fun h0 => (by cases h0), fun h0 => absurd h0.1 h⟩, Or.inr ⟨rfl, b, rfl⟩⟩
  subst he
  have HEV : Hid (ev = true ↔ AllTo L G V pay.size 0) := hev
  clear hev hEV
  rcases hnil with ⟨rfl, rfl⟩ | ⟨rfl, b, rfl⟩
  all_goals
    go_wp2_with fail
    go_loopg [17, 84] G.length (fun kx s17 s84 wr => ∃ (i : Nat) (b : Bool), s84 = .int .i64 (i : Int) ∧ s17 = .bool b ∧ i ≤ G.length ∧ kx = G.length - i ∧ Hid ((b = true ↔ AllTo L G V pay.size i) ∧ Ma w wr sl gl ul L G V eb pay ∧ PlIn wr (.slice au G.length cu) (G.map plOf)))
    case atStart => exact ⟨0, _, rfl, rfl, Nat.zero_le _, rfl, (⟨by have := HEV.out; simpa using this, M12.out.1, M12.out.2⟩ : _ ∧ _ ∧ _)⟩
    case round =>
      obtain ⟨i, bb, rfl, rfl, hi, rfl, I⟩ := hrel
      by_cases hlt : i < G.length
      · obtain ⟨g, ha, hg, k0, k1, k2, k3, k4⟩ := I.out.2.2.row i (by rw [List.length_map]; exact hlt)
        subst ha
        rw [plOf_getD G i hlt] at k0 k1 k2 k3 k4
        have HX : Hid (PrnL (plOf (G.getD i pd0)) ∧ (pF [plOf (G.getD i pd0)]).length ≤ 300) := by
          have hmem : plOf (G.getD i pd0) ∈ G.map plOf := by
            have e : G.getD i pd0 = G[i] := by simp [hlt]
            rw [e]; exact List.mem_map.2 ⟨_, List.getElem_mem hlt, rfl⟩
          have h1 := pP_in _ _ hmem
          have h2 := HTS.out
          exact ⟨HPR.out _ hmem, by omega⟩
        have HP1 : Hid (∀ (W : World) (v : Value), Env W → PlIn W v [plOf (G.getD i pd0)] → Calls Tryz.prog 10 #[v] W fun e w' => e = .returned (.string (ba (pF [plOf (G.getD i pd0)]))) ∧ Below W.heap.size W w') := fun W v E h => print_any v _ W E h (by simp) (by simp) (fun p hp => by rw [List.mem_singleton.1 hp]; exact HX.out.1)
        have HR1 : Hid (∀ (W : World), Env W → AtIn W sl L → Calls Tryz.prog 11 #[sl, .string (ba (pF [plOf (G.getD i pd0)]))] W fun e w' => ∃ u, e = .returned (.tuple #[u, .nilIface]) ∧ PlIn w' u [plOf (G.getD i pd0)] ∧ Below W.heap.size W w') := fun W E hA => read_back sl L [G.getD i pd0] W E hA HSO.out (one_ok HFO.out i hlt) (by rw [ba_size]; exact HX.out.2)
        have HM1 : Hid (∀ (W : World) (v : Value), Ma w W sl gl ul L G V eb pay → PlIn W v [plOf (G.getD i pd0)] → Calls Tryz.prog 12 #[sl, v, .agg #[ul, .string pay]] W fun e w' => Says e (MatchOk L [G.getD i pd0] V pay.size) ∧ Below W.heap.size W w') := fun W v M hP => by
          have hpd := PdIn.ofPl hP
          rw [show [plOf (G.getD i pd0)].map pdOf = [G.getD i pd0] by simp [pdOf_plOf]] at hpd
          refine match_any sl v ul L [G.getD i pd0] V pay W M.at_ hpd M.vl (by omega) (by simp) (by omega) SP.out (fun j hj => ?_) SV.out
          obtain rfl : j = 0 := by simp at hj; omega
          exact SG.out i hlt
        have HPO : Hid (∀ o, PlIn ((wr.alloc o).alloc (.cells #[.string (ba (plOf (G.getD i pd0)).name), .int .i64 (plOf (G.getD i pd0)).op, .int .i64 (plOf (G.getD i pd0)).lo, .int .i64 (plOf (G.getD i pd0)).hi, .string (ba (plOf (G.getD i pd0)).str)] 49)) (.slice (some ⟨wr.heap.size + 1, 0, none⟩) 1 1) [plOf (G.getD i pd0)]) := fun o => plin_oneA (wr.alloc o) _ _ (by simp)
        have HST : Hid (∀ b' : Bool, (b' = true ↔ ((bb = true) ∧ MatchOk L [G.getD i pd0] V pay.size)) → (b' = true ↔ AllTo L G V pay.size (i + 1))) := fun b' h => by rw [h, all_step, I.out.1]
        generalize plOf (G.getD i pd0) = x at *
        have B0 : Hid (∀ o1 o2, Below wr.heap.size wr ((wr.alloc o1).alloc o2)) := fun o1 o2 => ((Below.refl _ _).alloc (Nat.le_refl _) _).alloc (by simp) _
        go_wp2_with fail
        refine Calls.mono (HP1.out _ _ (I.out.2.1.below (B0.out _ _)).env (HPO.out _)) ?_
        rintro e V1 ⟨rfl, d1⟩
        have N1 : Hid (Ma w V1 sl gl ul L G V eb pay ∧ PlIn V1 (.slice (some ⟨g, 0, none⟩) G.length cu) (G.map plOf)) := ⟨(I.out.2.1.below (B0.out _ _)).below d1, (I.out.2.2.below (B0.out _ _)).below d1⟩
        clear d1 k0 k1 k2 k3 k4
        go_wp2_with fail
        refine Calls.mono (HR1.out _ N1.out.1.env N1.out.1.at_) ?_
        rintro e V2 ⟨u1, rfl, hu1, d2⟩
        have N2 : Hid (Ma w V2 sl gl ul L G V eb pay ∧ PlIn V2 (.slice (some ⟨g, 0, none⟩) G.length cu) (G.map plOf) ∧ PlIn V2 u1 [x]) := ⟨N1.out.1.below d2, N1.out.2.below d2, hu1⟩
        clear d2 hu1 N1
        have c0 := N2.out.1.c0
        have c1 := N2.out.1.c1
        cases bb with
        | false =>
          have HN : Hid (false = true ↔ AllTo L G V pay.size (i + 1)) := HST.out false (by simp)
          go_wp2
          go_roundg (G.length - (i + 1))
          case measure => omega
          case rel => exact ⟨i + 1, false, by go_num, rfl, by omega, rfl, (⟨HN.out, N2.out.1, N2.out.2.1⟩ : _ ∧ _ ∧ _)⟩
        | true =>
          go_wp2_with fail
          refine Calls.mono (HM1.out _ _ N2.out.1 N2.out.2.2) ?_
          rintro e V3 ⟨⟨b3, rfl, hb3⟩, d3⟩
          have N3 : Hid (Ma w V3 sl gl ul L G V eb pay ∧ PlIn V3 (.slice (some ⟨g, 0, none⟩) G.length cu) (G.map plOf)) := ⟨N2.out.1.below d3, N2.out.2.1.below d3⟩
          have HN : Hid (b3 = true ↔ AllTo L G V pay.size (i + 1)) := HST.out b3 (by rw [hb3]; simp)
          clear d3 hb3 N2 c0 c1
          go_wp2
          go_roundg (G.length - (i + 1))
          case measure => omega
          case rel => exact ⟨i + 1, b3, by go_num, rfl, by omega, rfl, (⟨HN.out, N3.out.1, N3.out.2⟩ : _ ∧ _ ∧ _)⟩
      · obtain rfl : i = G.length := by omega
        have hbm : bb = mb := by
          have h1 := I.out.1
          rw [all_all HFO.out, ← HMB.out] at h1
          exact Bool.eq_iff_iff.2 h1
        subst hbm
        have c0 := I.out.2.1.c0
        have c1 := I.out.2.1.c1
        go_wp2_with fail
        refine Calls.mono (HMT.out _ _ I.out.2.1 I.out.2.1.pd) ?_
        rintro e V3 ⟨rfl, d3⟩
        have N3 : Hid (Ma w V3 sl gl ul L G V eb pay) := I.out.2.1.below d3
        clear d3
        go_wp2
        go_ret
        exact ⟨by simp, N3.out.bel⟩
end Go.Proofs.YtcckoncgfmbhiabGreatDoor
