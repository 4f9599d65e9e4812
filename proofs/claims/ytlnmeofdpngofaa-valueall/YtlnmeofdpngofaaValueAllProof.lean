/- Proved: for every schema, event and place, ValueAll answers true (a filter of one whole range takes each event of the schema; an empty prefix is none).
  The frame is the guide's own shell (proof-skeleton.mjs) at this function; the walk and all ahead of it are mine. -/
import Derived.Test.YtlnmeofdpngofaaRows
import Derived.Test.YtlnmeofdpngofaaValEv
import Derived.Deep.RegionWith
import Derived.WalkKit
import Derived.WalkLawsBesides
import Derived.ProofKit
import Derived.OpenShut
import Derived.ShutString
import Derived.ChangeOld
import Derived.Below
namespace Go.Proofs.Ytlnmeofdpngofaa.valueAll
open Go.ChangeShapes Go.WideShapes Go.ChangeAt Go.RowKit
open Go.ChangeMaps (open_string shut_string)
set_option linter.unusedVariables false

theorem own : ownKnob Try.prog.godebug = none := by kernel_rfl
theorem laidOut : laidOutB Try.prog = true := by kernel_rfl


theorem all_find {az : List At} (h : SchemaOk az) {k : Nat} (hk : k < az.length) : FindAt az (az.getD k at0).name k := ⟨hk, rfl, (h.2.2 k hk).2⟩
theorem filter1 {az : List At} {p : Pd} {k : Nat} (h : FindAt az p.name k) : FilterOk az [p] ↔ PredOk (az.getD k at0) p := by
  constructor
  · intro hh
    obtain ⟨_, l, h1, h2⟩ := hh.2.2 0 (by simp)
    have h1 : FindAt az p.name l := h1
    rw [h.uniq h1]; exact h2
  · intro hh
    refine ⟨by simp, by simp, fun i hi => ?_⟩
    obtain rfl : i = 0 := by simp at hi; omega
    exact ⟨fun j hj => by omega, k, h, hh⟩
theorem match1 {az : List At} {p : Pd} {k : Nat} {vs : List Vl} {n : Nat} (h : FindAt az p.name k) : MatchOk az [p] vs n ↔ PredOk (az.getD k at0) p ∧ EventOk az vs n ∧ Takes p (vs.getD k vl0) := by
  constructor
  · intro hh
    obtain ⟨l, h1, h2⟩ := hh.2.2 0 (by simp)
    have h1 : FindAt az p.name l := h1
    exact ⟨(filter1 h).mp hh.1, hh.2.1, by rw [h.uniq h1]; exact h2⟩
  · intro hh
    refine ⟨(filter1 h).mpr hh.1, hh.2.1, fun i hi => ?_⟩
    obtain rfl : i = 0 := by simp at hi; omega
    exact ⟨k, h, hh.2.2⟩
theorem sz_cutA (t : List At) : ∀ i, i < ((t.take 6).map cutA).length → (((t.take 6).map cutA).getD i at0).name.size ≤ maxLen := fun i hi => by
  have hi' : i < 6 ∧ i < t.length := by simp at hi; omega
  have e : ((t.take 6).map cutA).getD i at0 = cutA t[i] := by simp [hi'.1, hi'.2]
  rw [e]
  have := cut_size t[i].name 20
  show (cut t[i].name 20).size ≤ maxLen
  unfold maxLen; omega
theorem sz_cutV (t : List Vl) : ∀ i, i < ((t.take 6).map cutV).length → (((t.take 6).map cutV).getD i vl0).str.size ≤ maxLen := fun i hi => by
  have hi' : i < 6 ∧ i < t.length := by simp at hi; omega
  have e : ((t.take 6).map cutV).getD i vl0 = cutV t[i] := by simp [hi'.1, hi'.2]
  rw [e]
  have := cut_size t[i].str 50
  show (cut t[i].str 50).size ≤ maxLen
  unfold maxLen; omega
theorem below_drew (w : World) : Below w.heap.size w w.drew := ⟨rfl, rfl, rfl, Nat.le_refl _, fun _ _ => rfl⟩
theorem pref_no {az : List At} {n : ByteArray} {k : Nat} (h : FindAt az n k) : ¬ FilterOk az [⟨n, 3, 0, 0, ByteArray.empty⟩] := fun hh => by
  have := (filter1 (p := ⟨n, 3, 0, 0, ByteArray.empty⟩) h).mp hh
  rcases this with h | h
  · have h1 : (3 : Int) = 1 := h.1
    exact absurd h1 (by decide)
  · rcases h.1 with h1 | h1
    · have h2 : (3 : Int) = 2 := h1
      exact absurd h2 (by decide)
    · exact h1.2 rfl
theorem range_ok {az : List At} {x : At} {k : Nat} (h : FindAt az x.name k) (hx : az.getD k at0 = x) (ha : AttrOk x) (h2 : ¬ x.kind = 2) : FilterOk az [⟨x.name, 1, x.mn, x.mx, ByteArray.empty⟩] := by
  refine (filter1 (p := ⟨x.name, 1, x.mn, x.mx, ByteArray.empty⟩) h).mpr ?_
  rw [hx]
  rcases ha.2 with h1 | h1
  · exact .inl ⟨rfl, h1.1, Int.le_refl _, h1.2.2.1, Int.le_refl _, rfl⟩
  · exact absurd h1.1 h2
theorem range_match {az : List At} {x : At} {k : Nat} {vs : List Vl} {n : Nat} (h : FindAt az x.name k) (hx : az.getD k at0 = x) (ha : AttrOk x) (h2 : ¬ x.kind = 2) (hv : EventOk az vs n → ValOk x (vs.getD k vl0)) :
    MatchOk az [⟨x.name, 1, x.mn, x.mx, ByteArray.empty⟩] vs n ↔ EventOk az vs n := by
  rw [match1 (p := ⟨x.name, 1, x.mn, x.mx, ByteArray.empty⟩) h]
  refine ⟨fun hh => hh.2.1, fun hh => ⟨(filter1 (p := ⟨x.name, 1, x.mn, x.mx, ByteArray.empty⟩) h).mp (range_ok h hx ha h2), hh, .inl ⟨rfl, ?_⟩⟩⟩
  rcases hv hh with h1 | h1
  · exact ⟨h1.2.1, h1.2.2.1⟩
  · exact absurd h1.1 h2
/-! ### STEP 1: the walk -/
set_option maxRecDepth 100000 in
set_option maxHeartbeats 2000000 in
theorem walk (a0 : Option Addr) (len0 cap0 : Nat) (t0 : List At) (a1 : Option Addr) (len1 cap1 : Nat) (t1 : List Vl) (s1 : ByteArray) (a2 : Int) (w : World) (w0 : InRow 4 At.cells At.ok at0 w a0 len0 t0) (w1 : InRow 2 Vl.cells Vl.ok vl0 w a1 len1 t1) (z1 : s1.size ≤ maxLen) (w2 : (Lit.int .i64 a2).wf = true) :
    Calls Try.prog 5 #[.slice a0 len0 cap0, .agg #[.slice a1 len1 cap1, .string s1], .int .i64 a2] w fun e w' => e = .returned (.bool true) ∧ Below w.heap.size w w' := by
  obtain ⟨L, hL⟩ : ∃ L, L = (t0.take 6).map cutA := ⟨_, rfl⟩
  obtain ⟨V, hV⟩ : ∃ V, V = (t1.take 6).map cutV := ⟨_, rfl⟩
  obtain ⟨pay, hpay⟩ : ∃ pay, pay = cut s1 210 := ⟨_, rfl⟩
  have lL : L.length ≤ 6 := by rw [hL]; simp; omega
  have lV : V.length ≤ 6 := by rw [hV]; simp; omega
  have SL : Hid (∀ i, i < L.length → (L.getD i at0).name.size ≤ maxLen) := by rw [hL]; exact sz_cutA t0
  have SV : Hid (∀ i, i < V.length → (V.getD i vl0).str.size ≤ maxLen) := by rw [hV]; exact sz_cutV t1
  have SP : Hid (pay.size ≤ maxLen) := by
    have := cut_size s1 210
    show pay.size ≤ maxLen
    rw [hpay]; unfold maxLen; omega
  have hc1 := attrs_any a0 len0 cap0 t0 (w.alloc (.cells #[.slice a1 len1 cap1, .string s1] 28)) (w0.below (Nat.le_refl _) (below1 _ _))
  rw [← hL] at hc1
  have HV : Hid (V = (t1.take 6).map cutV) := hV
  have HY : Hid (pay = cut s1 210) := hpay
  clear hL hV hpay
  go_enter Try.func5, Try.ntmps5
  go_wp2_with fail
  refine hc1.mono ?_
  rintro e W1 ⟨v1, v2, rfl, R1⟩
  clear hc1
  have A1 : Hid (AtIn W1 v1 L) := AtIn.ofOwn R1.r1
  have bb := R1.bel
  have B1 : Hid (Below w.heap.size w W1) := (below1 _ _).trans (bb.mono (by simp))
  have y0 : W1.cell? ⟨w.heap.size, 0, none⟩ = some (.slice a1 len1 cap1) := (bb.cell (p := ⟨w.heap.size, 0, none⟩) (by simp)).trans (cell_at (j := 0) rfl (by simp))
  have y1 : W1.cell? ⟨w.heap.size, 1, none⟩ = some (.string s1) := (bb.cell (p := ⟨w.heap.size, 1, none⟩) (by simp)).trans (cell_at (j := 1) rfl (by simp))
  have yl : w.heap.size < W1.heap.size := by have := R1.le; simp at this; omega
  obtain ⟨av, cv, hv1⟩ := own_shape R1.r1
  subst hv1
  clear R1 bb
  have hc2 := ev_any a1 len1 cap1 s1 t1 W1 (w1.below (Nat.le_refl _) B1.out) z1
  rw [← HV.out, ← HY.out] at hc2
  go_wp2_with fail
  refine hc2.mono ?_
  rintro e W2 ⟨u1, u2, rfl, r1, _, _, b2⟩
  clear hc2
  have V2 : Hid (VlIn W2 u1 V) := VlIn.ofOwn r1
  have B2 : Hid (Below w.heap.size w W2) := B1.out.trans (b2.mono B1.out.size)
  have A2 : Hid (AtIn W2 (.slice av L.length cv) L) := A1.out.below b2
  obtain ⟨au, cu, hu1⟩ := own_shape r1
  subst hu1
  clear r1 b2 y0 y1 yl B1 A1
  obtain ⟨W3, hW3⟩ : ∃ W3, W3 = W2.alloc (.cells #[.slice au V.length cu, .string pay] 28) := ⟨_, rfl⟩
  have b3 : Below W2.heap.size W2 W3 := by rw [hW3]; exact below1 _ _
  have A3 : Hid (AtIn W3 (.slice av L.length cv) L) := A2.out.below b3
  have V3 : Hid (VlIn W3 (.slice au V.length cu) V) := V2.out.below b3
  have B3 : Hid (Below w.heap.size w W3) := B2.out.trans (b3.mono B2.out.size)
  have e0 : W3.cell? ⟨W2.heap.size, 0, none⟩ = some (.slice au V.length cu) := by rw [hW3]; exact cell_at (j := 0) rfl (by simp)
  have e1 : W3.cell? ⟨W2.heap.size, 1, none⟩ = some (.string pay) := by rw [hW3]; exact cell_at (j := 1) rfl (by simp)
  have el : W2.heap.size < W3.heap.size := by rw [hW3]; simp
  go_wp2_with fail
  rw [← hW3]
  clear hW3 b3 A2 V2 B2
  refine (check_any _ L _ A3.out (by omega) SL.out).mono ?_
  rintro e W4 ⟨hE, b4⟩
  have A4 : Hid (AtIn W4 (.slice av L.length cv) L) := A3.out.below b4
  have V4 : Hid (VlIn W4 (.slice au V.length cu) V) := V3.out.below b4
  have B4 : Hid (Below w.heap.size w W4) := B3.out.trans (b4.mono B3.out.size)
  have d0 := cell_grown e0 b4
  have d1 := cell_grown e1 b4
  have dl : W2.heap.size < W4.heap.size := by have := b4.size; omega
  clear A3 V3 B3 b4 e0 e1 el
  rcases hE with ⟨rfl, hC⟩ | ⟨bb, nn, rfl, hC, _⟩
  · have HC : Hid (SchemaOk L) := hC
    clear hC
    by_cases g0 : a2 < 0
    · go_wp2_with fail
      refine (awake5_any _).mono ?_
      rintro e W5 ⟨rfl, b5⟩
      have B5 : Hid (Below w.heap.size w W5) := B4.out.trans (b5.mono B4.out.size)
      clear b5
      go_wp2
      go_ret
      exact ⟨rfl, B5.out⟩
    · by_cases g1 : (L.length : Int) ≤ a2
      · go_wp2_with fail
        refine (awake5_any _).mono ?_
        rintro e W5 ⟨rfl, b5⟩
        have B5 : Hid (Below w.heap.size w W5) := B4.out.trans (b5.mono B4.out.size)
        clear b5
        go_wp2
        go_ret
        exact ⟨rfl, B5.out⟩
      · obtain ⟨k, rfl⟩ : ∃ k : Nat, a2 = k := ⟨a2.toNat, by omega⟩
        have hk : k < L.length := by omega
        have HFI : Hid (FindAt L (L.getD k at0).name k) := all_find HC.out hk
        have HOK : Hid (AttrOk (L.getD k at0)) := (HC.out.2.2 k hk).1
        have HVK : Hid (EventOk L V pay.size → ValOk (L.getD k at0) (V.getD k vl0)) := fun h => h.2.2 k hk
        obtain ⟨g, rfl, hg, hcc, c0, c1, c2, c3⟩ := A4.out.row k hk
        have HX : Hid (∃ x, x = L.getD k at0) := ⟨_, rfl⟩
        generalize hx : L.getD k at0 = x at c0 c1 c2 c3 HFI HOK HVK
        have HXe : Hid (L.getD k at0 = x) := hx
        clear hx HX
        have hk0 : ¬ (k : Int) < 0 := by omega
        go_wp2_with fail
        go_region
        by_cases hkd : x.kind = 2
        · obtain ⟨W5, hW5⟩ : ∃ W5, W5 = ((W4.alloc (.cells #[.string x.name, .int .i64 1, .int .i64 x.mn, .int .i64 x.mx, .string ⟨#[]⟩] 43)).alloc (.cells #[.string x.name, .int .i64 3, .int .i64 0, .int .i64 0, .string ⟨#[]⟩] 43)).drew := ⟨_, rfl⟩
          have b5 : Below W4.heap.size W4 W5 := by rw [hW5]; exact (below2 _ _ _).trans ((below_drew _).mono (below2 _ _ _).size)
          have P5 : PdIn W5 (.slice (some ⟨W4.heap.size + 1, 0, none⟩) 1 1) [⟨x.name, 3, 0, 0, ByteArray.empty⟩] := by
            rw [hW5]; exact (one_pd (W4.alloc _) ⟨x.name, 3, 0, 0, ByteArray.empty⟩ _ (by simp)).below (below_drew _)
          go_wp2_with fail
          rw [← hW5]
          clear hW5 c0 c1 c2 c3
          refine (awake5_any _).mono ?_
          rintro e W6 ⟨rfl, b6⟩
          have b46 : Below W4.heap.size W4 W6 := b5.trans (b6.mono b5.size)
          have P6 := P5.below b6
          have A6 := A4.out.below b46
          have V6 := V4.out.below b46
          have e0 := cell_grown d0 b46
          have e1 := cell_grown d1 b46
          have el : W2.heap.size < W6.heap.size := by have := b46.size; omega
          have H6 : Hid (Below W4.heap.size W4 W6 ∧ PdIn W6 (.slice (some ⟨W4.heap.size + 1, 0, none⟩) 1 1) [⟨x.name, 3, 0, 0, ByteArray.empty⟩] ∧ AtIn W6 (.slice (some ⟨g, 0, none⟩) L.length cv) L ∧ VlIn W6 (.slice au V.length cu) V) := ⟨b46, P6, A6, V6⟩
          clear b5 P5 b6 b46 P6 A6 V6 d0 d1
          go_wp2_with fail
          refine (filter_any _ _ L [⟨x.name, 3, 0, 0, ByteArray.empty⟩] _ H6.out.2.2.1 H6.out.2.1 (by omega) (by simp) (sz_pd (Nat.zero_le _))).mono ?_
          rintro e W7 ⟨hE, b7⟩
          rcases hE with ⟨_, hF⟩ | ⟨bb, nn, rfl, hF, _⟩
          · exact absurd hF (pref_no HFI.out)
          have d0 := cell_grown e0 b7
          have d1 := cell_grown e1 b7
          have dl7 : W2.heap.size < W7.heap.size := by have := b7.size; omega
          have H7 : Hid (Below W4.heap.size W4 W7 ∧ PdIn W7 (.slice (some ⟨W4.heap.size + 1, 0, none⟩) 1 1) [⟨x.name, 3, 0, 0, ByteArray.empty⟩] ∧ AtIn W7 (.slice (some ⟨g, 0, none⟩) L.length cv) L ∧ VlIn W7 (.slice au V.length cu) V) :=
            ⟨H6.out.1.trans (b7.mono H6.out.1.size), H6.out.2.1.below b7, H6.out.2.2.1.below b7, H6.out.2.2.2.below b7⟩
          clear b7 e0 e1 el H6 hF
          go_wp2_with fail
          refine (match_any _ _ _ L [⟨x.name, 3, 0, 0, ByteArray.empty⟩] V pay _ H7.out.2.2.1 H7.out.2.1 H7.out.2.2.2 (by omega) (by simp) (by omega) SP.out (sz_pd (Nat.zero_le _)) SV.out).mono ?_
          rintro e W8 ⟨hs, b8⟩
          obtain rfl := hs.f (fun h => pref_no HFI.out h.1)
          have B8 : Hid (Below w.heap.size w W8) := (B4.out.trans (H7.out.1.mono B4.out.size)).trans (b8.mono (Nat.le_trans B4.out.size H7.out.1.size))
          clear hs b8 d0 d1
          go_wp2
          go_ret
          exact ⟨rfl, B8.out⟩
        · have HFO : Hid (FilterOk L [⟨x.name, 1, x.mn, x.mx, ByteArray.empty⟩]) := range_ok HFI.out HXe.out HOK.out hkd
          have HMO : Hid (MatchOk L [⟨x.name, 1, x.mn, x.mx, ByteArray.empty⟩] V pay.size ↔ EventOk L V pay.size) := range_match HFI.out HXe.out HOK.out hkd HVK.out
          obtain ⟨W5, hW5⟩ : ∃ W5, W5 = (W4.alloc (.cells #[.string x.name, .int .i64 1, .int .i64 x.mn, .int .i64 x.mx, .string ⟨#[]⟩] 43)).drew := ⟨_, rfl⟩
          have b5 : Below W4.heap.size W4 W5 := by rw [hW5]; exact (below1 _ _).trans ((below_drew _).mono (below1 _ _).size)
          have P5 : PdIn W5 (.slice (some ⟨W4.heap.size, 0, none⟩) 1 1) [⟨x.name, 1, x.mn, x.mx, ByteArray.empty⟩] := by
            rw [hW5]; exact (one_pd W4 ⟨x.name, 1, x.mn, x.mx, ByteArray.empty⟩ _ rfl).below (below_drew _)
          have e0 := cell_grown d0 b5
          have e1 := cell_grown d1 b5
          have el : W2.heap.size < W5.heap.size := by have := b5.size; omega
          have H5 : Hid (Below W4.heap.size W4 W5 ∧ PdIn W5 (.slice (some ⟨W4.heap.size, 0, none⟩) 1 1) [⟨x.name, 1, x.mn, x.mx, ByteArray.empty⟩] ∧ AtIn W5 (.slice (some ⟨g, 0, none⟩) L.length cv) L ∧ VlIn W5 (.slice au V.length cu) V) :=
            ⟨b5, P5, A4.out.below b5, V4.out.below b5⟩
          clear b5 P5 d0 d1
          by_cases hEv : EventOk L V pay.size
          · have HEv : Hid (EventOk L V pay.size) := hEv
            clear hEv
            obtain ⟨ι, F, _, hF0, hFb, hFc⟩ := grown_fam W5
            have F0 : ∀ i, (F i).cell? ⟨W2.heap.size, 0, none⟩ = some (.slice au V.length cu) := fun i => cell_grown e0 (hFb i)
            have F1 : ∀ i, (F i).cell? ⟨W2.heap.size, 1, none⟩ = some (.string pay) := fun i => cell_grown e1 (hFb i)
            have HF : Hid ((∃ i, { W5 with drawn := W5.drawn + 1 } = F i) ∧ (∀ i, Below W5.heap.size W5 (F i)) ∧ (∀ i W, Below W5.heap.size (F i) W → ∃ j, W = F j)) := ⟨hF0, hFb, hFc⟩
            clear hF0 hFb hFc e0 e1
            go_wp2_with fail
            rw [← hW5]
            clear hW5 c0 c1 c2 c3
            refine wp_region_fam F HF.out.1 (by kernel_rfl) (by kernel_rfl) ?_
            repeat (go_big_quiet_step (first
              | (go_at_call 11; refine (awake5_any _).mono ?_; rintro e' w' ⟨rfl, hb⟩; exact ⟨rfl, HF.out.2.2 _ _ (hb.mono (HF.out.2.1 _).size)⟩)
              | (go_at_call 10; refine (filter_any _ _ L [⟨x.name, 1, x.mn, x.mx, ByteArray.empty⟩] _ (H5.out.2.2.1.below (HF.out.2.1 _)) (H5.out.2.1.below (HF.out.2.1 _)) (by omega) (by simp) (sz_pd (Nat.zero_le _))).mono ?_; rintro e' w' ⟨hE, hb⟩; exact ⟨hE.t HFO.out, HF.out.2.2 _ _ (hb.mono (HF.out.2.1 _).size)⟩)
              | (go_at_call 12; refine (match_any _ _ _ L [⟨x.name, 1, x.mn, x.mx, ByteArray.empty⟩] V pay _ (H5.out.2.2.1.below (HF.out.2.1 _)) (H5.out.2.1.below (HF.out.2.1 _)) (H5.out.2.2.2.below (HF.out.2.1 _)) (by omega) (by simp) (by omega) SP.out (sz_pd (Nat.zero_le _)) SV.out).mono ?_; rintro e' w' ⟨hs, hb⟩; exact ⟨hs.t (HMO.out.mpr HEv.out), HF.out.2.2 _ _ (hb.mono (HF.out.2.1 _).size)⟩)
              | (go_at_call 17; refine (event_any _ _ L V pay _ (H5.out.2.2.1.below (HF.out.2.1 _)) (H5.out.2.2.2.below (HF.out.2.1 _)) (by omega) (by omega) SP.out SV.out).mono ?_; rintro e' w' ⟨hE, hb⟩; exact ⟨hE.t HEv.out, HF.out.2.2 _ _ (hb.mono (HF.out.2.1 _).size)⟩)))
            refine wpQuiet_nil ?_
            rintro _ ⟨i, rfl⟩
            have BW : Hid (Below w.heap.size w (F i)) := (B4.out.trans (H5.out.1.mono B4.out.size)).trans ((HF.out.2.1 i).mono (Nat.le_trans B4.out.size H5.out.1.size))
            generalize F i = Wn at BW
            clear F0 F1 HF
            go_wp2
            go_ret
            exact ⟨rfl, BW.out⟩
          · have HEv : Hid (¬ EventOk L V pay.size) := hEv
            clear hEv
            go_wp2_with fail
            rw [← hW5]
            clear hW5 c0 c1 c2 c3
            have H6 : ∀ W, Below W5.drew.heap.size W5.drew W → Below W5.heap.size W5 W := fun W h => (below_drew _).trans (h.mono (Nat.le_refl _))
            have HH6 : Hid _ := H6
            clear H6
            go_region_with (first
              | (go_at_call 11; refine (awake5_any _).mono ?_; rintro e6 W6 ⟨rfl, b6⟩; have x6 := HH6.out _ b6; have f60 := cell_grown e0 x6; have f61 := cell_grown e1 x6; have l6 : W2.heap.size < W6.heap.size := by { have := x6.size; omega }; have X6 : Hid (Below W5.heap.size W5 W6) := x6; clear x6 b6)
              | (go_at_call 10; refine (filter_any _ _ L [⟨x.name, 1, x.mn, x.mx, ByteArray.empty⟩] W6 (H5.out.2.2.1.below X6.out) (H5.out.2.1.below X6.out) (by omega) (by simp) (sz_pd (Nat.zero_le _))).mono ?_; rintro e7 W7 ⟨hE7, b7⟩; obtain rfl := hE7.t HFO.out; have X7 : Hid (Below W5.heap.size W5 W7) := X6.out.trans (b7.mono X6.out.size); have f70 := cell_grown f60 b7; have f71 := cell_grown f61 b7; have l7 : W2.heap.size < W7.heap.size := by { have := b7.size; omega }; clear hE7 b7)
              | (go_at_call 12; refine (match_any _ _ _ L [⟨x.name, 1, x.mn, x.mx, ByteArray.empty⟩] V pay W7 (H5.out.2.2.1.below X7.out) (H5.out.2.1.below X7.out) (H5.out.2.2.2.below X7.out) (by omega) (by simp) (by omega) SP.out (sz_pd (Nat.zero_le _)) SV.out).mono ?_; rintro e8 W8 ⟨hs8, b8⟩; obtain rfl := hs8.f (fun h => HEv.out (HMO.out.mp h)); have X8 : Hid (Below W5.heap.size W5 W8) := X7.out.trans (b8.mono X7.out.size); have f80 := cell_grown f70 b8; have f81 := cell_grown f71 b8; have l8 : W2.heap.size < W8.heap.size := by { have := b8.size; omega }; clear hs8 b8)
              | (go_at_call 17; refine (event_any _ _ L V pay W8 (H5.out.2.2.1.below X8.out) (H5.out.2.2.2.below X8.out) (by omega) (by omega) SP.out SV.out).mono ?_; rintro e9 W9 ⟨hE9, b9⟩; obtain ⟨bb, rfl⟩ := hE9.f HEv.out; have X9 : Hid (Below W5.heap.size W5 W9) := X8.out.trans (b9.mono X8.out.size); clear hE9 b9))
            all_goals
              have BW : Hid (Below w.heap.size w W9) := (B4.out.trans (H5.out.1.mono B4.out.size)).trans (X9.out.mono (Nat.le_trans B4.out.size H5.out.1.size))
              clear f60 f61 f70 f71 f80 f81
              go_wp2
              go_ret
              exact ⟨rfl, BW.out⟩
  · have HC : Hid (¬ SchemaOk L) := hC
    go_wp2_with fail
    refine (awake5_any _).mono ?_
    rintro e W5 ⟨rfl, b5⟩
    have B5 : Hid (Below w.heap.size w W5) := B4.out.trans (b5.mono B4.out.size)
    clear b5
    go_wp2
    go_ret
    exact ⟨rfl, B5.out⟩

/-! ### The row's step -/
set_option maxRecDepth 100000 in
theorem lifted (os : Os) (started : os.Started) (H : Type) (enc : TypeId × Value → H) :
    ReturnsInHanded {} Try.checked os 5 .any (Rows.valueAllSpec.pre6 enc Try.prog Try.f5 Rows.valueAllRow.domain false) (Rows.valueAllSpec.post enc Try.prog Try.f5 false true false false) := by
  refine returnsInHanded_of_change (C := Try.checked) own started (by kernel_rfl) Try.func5
    (ChangeSpec.witness6 (enc := enc) (C := Try.checked) false ⟨#[], #[.slice none 0 0, .agg #[.slice none 0 0, .string ByteArray.empty], .int .i64 0], []⟩ 8 (by kernel_rfl) (by kernel_rfl) (by kernel_rfl) (by kernel_rfl)) ?_
  intro W base args ds gs before hval0 hW hcnd _
  have hval : ∀ (j : Nat) t v, Try.f5.params[j]? = some t → args[j]? = some v → Value.okWide Try.prog W .any base t v := hval0
  have hW' := hW
  obtain ⟨p, q, hA0, hV, rfl, hfz, hnd⟩ := hW
  have hA : DataW.TrodAll enc Try.prog W 0 (fun _ => true) true Try.f5.params.toList args.toList ds p := hA0
  rw [Try.params5] at hA hval
  obtain ⟨v0, vs0, d0, ds0, p0, q0, hargs, rfl, rfl, h0, r0⟩ := trodAll_cons hA
  obtain ⟨v1, vs1, d1, ds1, p1, q1, rfl, rfl, rfl, h1, r1⟩ := trodAll_cons r0
  obtain ⟨v2, vs2, d2, ds2, p2, q2, rfl, rfl, rfl, h2, r2⟩ := trodAll_cons r1
  obtain ⟨rfl, rfl, rfl⟩ := trodAll_nil r2
  obtain rfl : args = #[v0, v1, v2] := by cases args; simp_all
  obtain ⟨rfl, rfl⟩ := trodVars_none hV
  obtain ⟨a0, len0, cap0, rfl⟩ := okWide_slice Try.underlying23 (hval 0 23 v0 rfl rfl)
  have k0 := h0
  have lt0 : ∀ x ∈ p0, x.block < W.heap.size := by obtain ⟨m, hm⟩ := k0; exact DataW.trod_lt m _ _ _ hm
  obtain ⟨t0, w0⟩ : ∃ ts, InRow 4 At.cells At.ok at0 W a0 len0 ts := by
    obtain ⟨fuel, hf⟩ := h0
    exact inrow_of 4 At.cells At.ok at0 23 54 Try.underlying23 cellsAt (by omega) At.cells_len (fun n cs x => at_of n cs x) hf
  obtain ⟨cs1, rfl, hcs1⟩ := okWide_struct Try.underlying28 (hval 1 28 v1 rfl rfl)
  have k1 := h1
  have lt1 : ∀ x ∈ p1, x.block < W.heap.size := by obtain ⟨m, hm⟩ := k1; exact DataW.trod_lt m _ _ _ hm
  obtain ⟨fuel1, hf1⟩ := h1
  obtain ⟨a1, len1, cap1, t1, s1, rfl, w1, z1⟩ := ev_of hcs1 hf1
  obtain ⟨a2, rfl, rfl, rfl, w2⟩ := open_int Try.underlying3 (hval 2 3 v2 rfl rfl) h2
  clear hA0 hval0
  refine (walk a0 len0 cap0 t0 a1 len1 cap1 t1 s1 a2 W w0 w1 z1 w2).mono fun e W' ⟨he, bel⟩ => ?_
  subst he
  exact ⟨_, rfl, _, _, _, [], _, [], hW', trodAll_mk1 (shut_bool Try.underlying4 _), (trodAll_cons_mk (Below.trod laidOut (by kernel_rfl) (of_decide_eq_true (by kernel_rfl)) k0 bel lt0) (trodAll_cons_mk (Below.trod laidOut (by kernel_rfl) (of_decide_eq_true (by kernel_rfl)) k1 bel lt1) (trodAll_cons_mk (shut_int Try.underlying3 w2) trodAll_mk0))), rfl, bel.frame _, fun h => by cases h⟩

theorem over : Rows.valueAllRow.holds Try.pinned (OpenSpec.ofChange Rows.valueAllSpec) :=
  OpenClaim.holds_of_wide 5 Try.f5 rfl rfl rfl rfl rfl rfl rfl ⟨rfl, rfl, rfl, rfl, rfl⟩ rfl rfl rfl rfl rfl (by kernel_rfl) Try.func5 (by kernel_rfl)
    (of_decide_eq_true (by kernel_rfl)) (by unfold Func.isWrapper; first | (rw [if_pos (by decide +kernel)]; kernel_rfl) | (rw [if_neg (by decide +kernel)]; exact ⟨rfl, rfl⟩))
    (fun os started H enc _ => lifted os started H enc)

end Go.Proofs.Ytlnmeofdpngofaa.valueAll

namespace Go.Proofs.Ytlnmeofdpngofaa
/-- Proved: for every schema, event and place, ValueAll answers true (a filter of one whole range takes each event of the schema; an empty prefix is none). -/
theorem valueAll_holds : Rows.ValueAllSaid := valueAll.over
#print axioms valueAll_holds
end Go.Proofs.Ytlnmeofdpngofaa
