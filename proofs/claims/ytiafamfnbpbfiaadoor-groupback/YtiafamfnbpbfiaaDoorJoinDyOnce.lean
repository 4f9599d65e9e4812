/- Covers and chains, interval by interval. No program in sight. -/
import Derived.Test.YtiafamfnbpbfiaaDoorDyCount
import Derived.Test.YtiafamfnbpbfiaaDoorGrReach
import Derived.Test.YtiafamfnbpbfiaaDoorGrInj
import Derived.Test.YtiafamfnbpbfiaaDoorGrRead
import Derived.Test.YtiafamfnbpbfiaaDoorDyTake
import Derived.Test.YtiafamfnbpbfiaaDoorGrDoor
namespace Go.Proofs.YtiafamfnbpbfiaaDoor
open Go.RowKit

theorem cover_pos (lo hi n : Nat) (h : lo ≤ hi) : 0 < (cover lo hi n).length := by rw [cover_step lo hi n h]; simp
theorem coverOf_end (lo hi L : Int) (h : hi < lo) : coverOf lo hi L = [] := by
  unfold coverOf; split
  · rename_i hg; have := (good_cell.1 hg.2).2.2.1; exact cover_end _ _ _ (by omega)
  · rfl
theorem not_cover {lo hi L : Int} (h : ¬ (0 ≤ L ∧ L ≤ 8 ∧ 0 ≤ lo ∧ lo ≤ hi ∧ hi < 2 ^ L.toNat)) : coverOf lo hi L = [] := by
  by_cases h1 : hi < lo
  · exact coverOf_end lo hi L h1
  · unfold coverOf
    rw [if_neg]
    rintro ⟨g1, g2⟩
    have a := good_cell.1 g1
    have b := good_cell.1 g2
    exact h ⟨a.1, a.2.1, a.2.2.1, by omega, b.2.2.2⟩
/-- What is left of the cover from the interval number k on. -/
theorem drop_cover {l : List Iv} {k x hi n : Nat} (h : l.drop k = cover x hi n) (hk : k < l.length) : x ≤ hi ∧ l.getD k iv0 = nx x hi n ∧ l.drop (k + 1) = cover (x + 2 ^ (n - lv x hi n)) hi n := by
  have hx : x ≤ hi := by
    apply Classical.byContradiction; intro hh
    rw [cover_end x hi n (by omega)] at h
    have : (l.drop k).length = 0 := by rw [h]; rfl
    simp at this; omega
  rw [cover_step x hi n hx] at h
  refine ⟨hx, ?_, ?_⟩
  · have : (l.drop k)[0]? = some (nx x hi n) := by rw [h]; rfl
    simp at this
    simp [List.getD, this]
  · have : (l.drop k).drop 1 = cover (x + 2 ^ (n - lv x hi n)) hi n := by rw [h]; rfl
    simpa using this
theorem cnt_take (ch l : List Iv) (k : Nat) (hk : k < ch.length) : cnt (ch.take (k + 1)) l = cnt (ch.take k) l + l.count (ch.getD k iv0) := by
  rw [List.take_succ_eq_append_getElem hk]
  unfold cnt
  rw [List.map_append, List.sum_append]
  simp [hk]
theorem count_take (l : List Iv) (x : Iv) (k : Nat) (hk : k < l.length) : (l.take (k + 1)).count x = (l.take k).count x + if x = l.getD k iv0 then 1 else 0 := by
  rw [List.take_succ_eq_append_getElem hk, List.count_append]
  have e : l.getD k iv0 = l[k] := by simp [List.getD, hk]
  rw [e, List.count_singleton]
  by_cases h : x = l[k]
  · subst h; simp
  · have h' : (l[k] == x) = false := by simpa using fun hh => h hh.symm
    simp [h, h']
theorem cnt_le (ch l : List Iv) : cnt ch l ≤ ch.length * l.length := by
  induction ch with
  | nil => simp [cnt]
  | cons x ch ih =>
    have h1 : cnt (x :: ch) l = l.count x + cnt ch l := by simp [cnt]
    have h2 := List.count_le_length (a := x) (l := l)
    rw [h1, List.length_cons, Nat.add_mul]; omega
end Go.Proofs.YtiafamfnbpbfiaaDoor

/- How many groups a filter and an event have in common. No program's walk in sight. -/
namespace Go.Proofs.YtiafamfnbpbfiaaDoor
open Go.RowKit
set_option linter.unusedVariables false

def nS (l : List ByteArray) (x : ByteArray) : Nat := l.countP fun y => decide (y = x)
def cntS (l m : List ByteArray) : Nat := (l.map fun a => nS m a).sum
theorem cntS_cons (a : ByteArray) (l m : List ByteArray) : cntS (a :: l) m = nS m a + cntS l m := by simp [cntS]
theorem cntS_take (l m : List ByteArray) (k : Nat) (hk : k < l.length) : cntS (l.take (k + 1)) m = cntS (l.take k) m + nS m (l.getD k ByteArray.empty) := by
  rw [List.take_succ_eq_append_getElem hk]
  unfold cntS
  rw [List.map_append, List.sum_append]
  simp [hk]
theorem nS_take (l : List ByteArray) (x : ByteArray) (k : Nat) (hk : k < l.length) : nS (l.take (k + 1)) x = nS (l.take k) x + if x = l.getD k ByteArray.empty then 1 else 0 := by
  unfold nS
  rw [List.take_succ_eq_append_getElem hk, List.countP_append]
  have e : l.getD k ByteArray.empty = l[k] := by simp [List.getD, hk]
  rw [e, List.countP_cons, List.countP_nil]
  by_cases h : x = l[k]
  · rw [if_pos h, if_pos (by simp [h])]
  · rw [if_neg h, if_neg (by simpa using fun hh => h hh.symm)]
theorem nS_le (l : List ByteArray) (x : ByteArray) : nS l x ≤ l.length := List.countP_le_length
theorem cntS_le (l m : List ByteArray) : cntS l m ≤ l.length * m.length := by
  induction l with
  | nil => simp [cntS]
  | cons a l ih => rw [cntS_cons, List.length_cons, Nat.add_mul]; have := nS_le m a; omega
theorem gname_same {a b : ByteArray} {x y : Iv} (ha : NameOk a) (hb : NameOk b) (hx : x.small) (hy : y.small) (h : gname a x = gname b y) : a = b ∧ x = y := by
  obtain ⟨l, i⟩ := x
  obtain ⟨m, j⟩ := y
  obtain ⟨h1, h2, h3, h4⟩ := hx
  obtain ⟨g1, g2, g3, g4⟩ := hy
  simp at h1 h2 h3 h4 g1 g2 g3 g4
  obtain ⟨l, rfl⟩ : ∃ n : Nat, l = n := ⟨l.toNat, by omega⟩
  obtain ⟨i, rfl⟩ : ∃ n : Nat, i = n := ⟨i.toNat, by omega⟩
  obtain ⟨m, rfl⟩ : ∃ n : Nat, m = n := ⟨m.toNat, by omega⟩
  obtain ⟨j, rfl⟩ : ∃ n : Nat, j = n := ⟨j.toNat, by omega⟩
  obtain ⟨e1, rfl, rfl⟩ := gname_inj ha hb h
  exact ⟨e1, rfl⟩
theorem count_other {a b : ByteArray} {y : Iv} (ha : NameOk a) (hb : NameOk b) (hne : a ≠ b) (hy : y.small) : ∀ (xs : List Iv), (∀ x ∈ xs, x.small) → nS (xs.map (gname b)) (gname a y) = 0 := by
  intro xs hxs
  refine List.countP_eq_zero.2 fun z hz hh => ?_
  obtain ⟨x, hx, e⟩ := List.mem_map.1 hz
  exact hne (gname_same ha hb hy (hxs x hx) ((of_decide_eq_true hh).symm.trans e.symm)).1
theorem count_same {a : ByteArray} {y : Iv} (ha : NameOk a) (hy : y.small) : ∀ (xs : List Iv), (∀ x ∈ xs, x.small) → nS (xs.map (gname a)) (gname a y) = xs.count y := by
  intro xs
  induction xs with
  | nil => intro _; rfl
  | cons x xs ih =>
    intro hxs
    have ih' := ih (fun z hz => hxs z (by simp [hz]))
    unfold nS at *
    rw [List.map_cons, List.countP_cons, List.count_cons, ih']
    by_cases e : x = y
    · subst e; simp
    · have h1 : (x == y) = false := by simpa using e
      have h2 : decide (gname a x = gname a y) = false := decide_eq_false fun h => e (gname_same ha ha (hxs x (by simp)) hy h).2
      simp [h1, h2]
theorem nS_append (l m : List ByteArray) (x : ByteArray) : nS (l ++ m) x = nS l x + nS m x := by unfold nS; rw [List.countP_append]
theorem count_reach {az : List At} {vs : List Vl} {L : Int} (hs : SchemaOk az) {k : Nat} (hk : k < az.length) {y : Iv} (hy : y.small) : ∀ m, m ≤ az.length →
    nS (reachs az vs L m) (gname (az.getD k at0).name y) = if k < m then (chainOf (cellOf (az.getD k at0) (vs.getD k vl0) L) L).count y else 0 := by
  intro m
  induction m with
  | zero => intro _; simp [reachs, nS]
  | succ m ih =>
    intro hm
    rw [reachs, nS_append, ih (by omega)]
    unfold rchAt
    have hnk := (hs.2.2 k hk).1.1
    have hnm := (hs.2.2 m (by omega)).1.1
    by_cases e : k = m
    · subst e
      rw [if_neg (by omega), if_pos (by omega), count_same hnk hy _ (chainOf_small _ _)]; omega
    · have hne : (az.getD k at0).name ≠ (az.getD m at0).name := by
        rcases Nat.lt_or_ge k m with h | h
        · exact (hs.2.2 m (by omega)).2 k h
        · exact fun h' => (hs.2.2 k hk).2 m (by omega) h'.symm
      rw [count_other hnk hnm hne hy _ (chainOf_small _ _)]
      by_cases h : k < m
      · rw [if_pos h, if_pos (by omega)]; omega
      · rw [if_neg h, if_neg (by omega)]
theorem cntS_met {az : List At} {vs : List Vl} {L : Int} (hs : SchemaOk az) {k : Nat} (hk : k < az.length) : ∀ (ys : List Iv), (∀ y ∈ ys, y.small) →
    cntS (ys.map (gname (az.getD k at0).name)) (reachs az vs L az.length) = cnt (chainOf (cellOf (az.getD k at0) (vs.getD k vl0) L) L) ys := by
  intro ys
  induction ys with
  | nil => intro _; rw [cnt_nil]; rfl
  | cons y ys ih =>
    intro hys
    rw [List.map_cons, cntS_cons, cnt_cons, ih (fun z hz => hys z (by simp [hz])), count_reach hs hk (hys y (by simp)) _ (Nat.le_refl _), if_pos hk]
/-- The ranges of a predicate of the schema are cells. -/
theorem rg_cells {az : List At} {p : Pd} {n k : Nat} (hn : n ≤ 8) (ha : AttrOk (az.getD k at0)) (hf : FindAt az p.name k) (hp : PredOk (az.getD k at0) p) : 0 ≤ (rg az p n).1 ∧ 0 ≤ (rg az p n).2 ∧ (rg az p n).1 < ((2 ^ n : Nat) : Int) ∧ (rg az p n).2 < ((2 ^ n : Nat) : Int) := by
  unfold rg
  rw [posA_is hf]
  rcases hp with ⟨o1, k1, b1, b2, b3, b4⟩ | ⟨o1, k1, b1, b2, b3⟩
  · have hk : -2147483648 ≤ (az.getD k at0).mn ∧ (az.getD k at0).mx ≤ 2147483648 := by
      rcases ha.2 with h | h
      · exact ⟨h.2.1, h.2.2.2⟩
      · omega
    rw [rangeOf_1 o1]
    have r1 := rise_num (a := az.getD k at0) (v := ⟨p.lo, ByteArray.empty⟩) (u := ⟨p.hi, ByteArray.empty⟩) hn k1 hk.1 hk.2 b1 b2 b3
    exact ⟨r1.1, Int.le_trans r1.1 r1.2, cellOf_hi _ _ _ hn, cellOf_hi _ _ _ hn⟩
  · have hk : ¬ (az.getD k at0).kind = 1 := by omega
    have h0 : ∀ v, 0 ≤ cellOf (az.getD k at0) v n := fun v => (rise_text (v := v) (u := v) hn hk (Nat.le_refl _)).1
    by_cases h2 : p.op = 2
    · rw [rangeOf_2 h2]
      exact ⟨h0 _, h0 _, cellOf_hi _ _ _ hn, cellOf_hi _ _ _ hn⟩
    · rw [rangeOf_3 (by rcases o1 with h | h <;> omega) h2]
      exact ⟨h0 _, h0 _, cellOf_hi _ _ _ hn, cellOf_hi _ _ _ hn⟩
theorem met_count {az : List At} {f : List Pd} {vs : List Vl} {n b k : Nat} (hn : n ≤ 8) (hs : SchemaOk az) (hf : FindAt az (f.getD b pd0).name k) (hp : PredOk (az.getD k at0) (f.getD b pd0)) :
    cntS (ofs az f n b) (reachs az vs n az.length) = if (rg az (f.getD b pd0) n).1 ≤ cellOf (az.getD k at0) (vs.getD k vl0) n ∧ cellOf (az.getD k at0) (vs.getD k vl0) n ≤ (rg az (f.getD b pd0) n).2 then 1 else 0 := by
  have hk : k < az.length := hf.1
  unfold ofs
  have en : (f.getD b pd0).name = (az.getD k at0).name := hf.2.1.symm
  rw [en, cntS_met hs hk _ (coverOf_small _ _ _)]
  obtain ⟨h1, h2, h3, h4⟩ := rg_cells hn (hs.2.2 k hk).1 hf hp
  generalize rg az (f.getD b pd0) n = r at *
  obtain ⟨lo, hi⟩ := r
  simp only at *
  obtain ⟨lo, rfl⟩ : ∃ m : Nat, lo = m := ⟨lo.toNat, by omega⟩
  obtain ⟨hi, rfl⟩ : ∃ m : Nat, hi = m := ⟨hi.toNat, by omega⟩
  rw [coverOf_nat hn (by omega) (by omega)]
  exact cnt_of _ _ lo hi n rfl hn (by omega)
end Go.Proofs.YtiafamfnbpbfiaaDoor

/- wigwaglaw08.GroupBack, walked. -/
namespace Go.Proofs.YtiafamfnbpbfiaaDoor
open Go.ChangeShapes Go.WideShapes Go.ChangeAt Go.RowKit
set_option linter.unusedVariables false

theorem OfIs.way {e : Ending} {w w' : World} {az : List At} {f : List Pd} {L : Int} (h : OfIs e w w' az f L) : (∃ (n b : Nat) (v : Value), L = n ∧ e = .returned (.tuple #[v, .nilIface]) ∧ GoodF az f L ∧ Best az f n b ∧ StRow w w' v (ofs az f L b)) ∨ (∃ t u, e = .returned (.tuple #[.slice none 0 0, .iface t u]) ∧ ¬ GoodF az f L) := h
theorem Best.one {az : List At} {f : List Pd} {n b c : Nat} (h : Best az f n b) (g : Best az f n c) : b = c := by
  rcases Nat.lt_trichotomy b c with h1 | h1 | h1
  · have := g.fst b h1; have := h.all c g.lt; omega
  · exact h1
  · have := h.fst c h1; have := g.all b h.lt; omega
theorem rg_le {az : List At} {p : Pd} {n k : Nat} (hn : n ≤ 8) (ha : AttrOk (az.getD k at0)) (hf : FindAt az p.name k) (hp : PredOk (az.getD k at0) p) : (rg az p n).1 ≤ (rg az p n).2 := by
  unfold rg
  rw [posA_is hf]
  rcases hp with ⟨o1, k1, b1, b2, b3, b4⟩ | ⟨o1, k1, b1, b2, b3⟩
  · have t := takes_cells (v := ⟨p.lo, ByteArray.empty⟩) hn ha (Or.inl ⟨o1, k1, b1, b2, b3, b4⟩) (Or.inl ⟨k1, b1, Int.le_trans b2 b3, rfl⟩) (Or.inl ⟨o1, Int.le_refl _, b2⟩)
    exact Int.le_trans t.2.1 t.2.2.1
  · have tk : Takes p ⟨0, p.str⟩ := by
      by_cases h2 : p.op = 2
      · exact Or.inr (Or.inl ⟨h2, rfl⟩)
      · exact Or.inr (Or.inr ⟨by omega, h2, List.prefix_refl _⟩)
    have t := takes_cells (v := ⟨0, p.str⟩) hn ha (Or.inr ⟨o1, k1, b1, b2, b3⟩) (Or.inr ⟨k1, b1, rfl⟩) tk
    exact Int.le_trans t.2.1 t.2.2.1
theorem map_getD_g (a : ByteArray) (xs : List Iv) (j : Nat) (h : j < xs.length) : (xs.map (gname a)).getD j ByteArray.empty = gname a (xs.getD j iv0) := by
  simp [List.getD, h]

set_option maxRecDepth 100000 in
set_option maxHeartbeats 8000000 in
theorem back_walk (a0 : Option Addr) (len0 cap0 : Nat) (t0 : List At) (a1 : Option Addr) (len1 cap1 : Nat) (t1 : List Pd) (a2 : Int) (w : World) (hE : GEnv w) (w0 : InRow 4 At.cells At.ok at0 w a0 len0 t0) (w1 : InRow 5 Pd.cells Pd.ok pd0 w a1 len1 t1) :
    Calls Tryd.prog 4 #[.slice a0 len0 cap0, .slice a1 len1 cap1, .int .i64 a2] w fun e w' => e = .returned (.bool true) ∧ Below w.heap.size w w' := by
  obtain ⟨L, hL⟩ : ∃ L, L = (t0.take 6).map cutA := ⟨_, rfl⟩
  obtain ⟨G, hG⟩ : ∃ G, G = (t1.take 6).map cutP := ⟨_, rfl⟩
  have lL : L.length ≤ 6 := by rw [hL]; simp; omega
  have lG : G.length ≤ 6 := by rw [hG]; simp; omega
  have SL : Hid (∀ i, i < L.length → (L.getD i at0).name.size ≤ 20) := by rw [hL]; exact gz_cutA t0
  have SG : Hid (∀ i, i < G.length → (G.getD i pd0).str.size ≤ 50 ∧ (G.getD i pd0).name.size ≤ 20) := by rw [hG]; exact gz_cutP t1
  have hc1 := attrs_any a0 len0 cap0 t0 w w0
  rw [← hL] at hc1
  have HG : Hid (G = (t1.take 6).map cutP) := hG
  have HW1 : Hid _ := w1
  clear hL hG w0 w1
  go_enter Tryd.func4, Tryd.ntmps4
  go_wp2_with fail
  refine hc1.mono ?_
  rintro e W1 ⟨v1, v2, rfl, R1⟩
  clear hc1
  have A1 : Hid (AtIn W1 v1 L) := AtIn.ofOwn R1.r1
  have B1 : Hid (Below w.heap.size w W1) := R1.bel
  have hc2 := preds_any a1 len1 cap1 t1 W1 (InRow.below HW1.out (Nat.le_refl _) B1.out)
  rw [← HG.out] at hc2
  clear R1
  go_wp2_with fail
  refine hc2.mono ?_
  rintro e W2 ⟨p1, p2, rfl, R2⟩
  clear hc2
  have M2 : Hid (Fm w W2 v1 p1 L G) := ⟨A1.out.below R2.bel, PdIn.ofOwn R2.r1, (hE.below B1.out).below R2.bel, B1.out.trans (R2.bel.mono B1.out.size)⟩
  obtain ⟨av, cv, rfl, _⟩ := A1.out.shape
  obtain ⟨ag, cg, hg1⟩ := own_shape R2.r1
  subst hg1
  clear R2 A1 B1 HW1 hE
  go_wp2_with fail
  refine Calls.mono (choose_of _ _ L G a2 W2 M2.out.at_ M2.out.pd (by omega) (by omega) (fun i hi => Nat.le_trans (SL.out i hi) (by unfold maxLen; omega)) (fun i hi => Nat.le_trans (SG.out i hi).1 (by omega))) ?_
  rintro e W2b ⟨hCh, b2⟩
  have M2b : Hid (Fm w W2b (.slice av L.length cv) (.slice ag G.length cg) L G) := M2.out.below b2
  clear b2 M2
  have HOF : Hid _ := of_of _ _ L G a2 W2b M2b.out.env M2b.out.at_ M2b.out.pd (by omega) (by omega) (fun i hi => Nat.le_trans (SL.out i hi) (by unfold maxLen; omega)) (fun i hi => ⟨Nat.le_trans (SG.out i hi).1 (by omega), Nat.le_trans (SG.out i hi).2 (by omega)⟩)
  rcases hCh.elim with ⟨n, b, rfl, rfl, hGd, hB⟩ | ⟨t, x, rfl, hno⟩
  · have HF : Hid (FilterOk L G) := hGd.2.2.2
    have HS : Hid (SchemaOk L) := hGd.2.2.1
    have HBE : Hid (Best L G n b) := hB
    have hbl : b < G.length := hB.lt
    have hn : n ≤ 8 := by have := hGd.2.1; omega
    have HGD : Hid (GoodF L G n) := hGd
    clear hCh hGd hB
    go_wp2_with fail
    refine Calls.mono HOF.out ?_
    rintro e W3 ⟨hOf, b3⟩
    have M3 : Hid (Fm w W3 (.slice av L.length cv) (.slice ag G.length cg) L G) := M2b.out.below b3
    rcases hOf.way with ⟨n', b', v8, hnn, rfl, hGd', hB', r8⟩ | ⟨t, x, rfl, hno⟩
    case inr => exact absurd HGD.out hno
    obtain rfl : n = n' := by omega
    obtain rfl : b = b' := HBE.out.one hB'
    have HO8 : Hid (StIn W3 v8 (ofs L G n b)) := r8.isIn
    obtain ⟨a8, c8, hv8⟩ := r8.shape
    subst hv8
    clear hOf hGd' hB' r8 b3 M2b HOF hnn
    obtain ⟨_, kb, hkb, hpk⟩ := HF.out.2.2 b hbl
    have hNm : NameOk (G.getD b pd0).name := by rw [← hkb.2.1]; exact (HS.out.2.2 kb hkb.1).1.1
    obtain ⟨c1, c2, c3, c4⟩ := rg_cells hn (HS.out.2.2 kb hkb.1).1 hkb hpk
    have c5 := rg_le hn (HS.out.2.2 kb hkb.1).1 hkb hpk
    obtain ⟨ga, gp, ca', cg', ι, F, _, e1, e2, FR⟩ := fam_r M3.out b kb hbl hkb.1
    simp at e1 e2
    obtain ⟨rfl, rfl⟩ := e1
    obtain ⟨rfl, rfl⟩ := e2
    have hkl : kb < L.length := hkb.1
    obtain ⟨f0, f1, f2, f3, q0, q1, q2, q3, q4, hai, hst, hbe, hcl⟩ := FR
    have HR : Hid _ := fun W => range_any (L.getD kb at0) (G.getD b pd0) n W (Nat.le_trans (SG.out b hbl).1 (by omega))
    have HRG : Hid (rg L (G.getD b pd0) n = rangeOf (L.getD kb at0) (G.getD b pd0) n) := (by unfold rg; rw [posA_is hkb] : rg L (G.getD b pd0) n = rangeOf (L.getD kb at0) (G.getD b pd0) n)
    rw [← HRG.out] at HR
    have hofs : ofs L G n b = (coverOf (rg L (G.getD b pd0) n).1 (rg L (G.getD b pd0) n).2 n).map (gname (G.getD b pd0).name) := rfl
    have hbd := rg_bd L (G.getD b pd0) n hn
    have HFK : Hid (FindAt L (G.getD b pd0).name kb) := hkb
    have HFF : Hid ((∃ j, { W3 with drawn := W3.drawn + 1 } = F j) ∧ (∀ j, Below W3.heap.size W3 (F j)) ∧ (∀ j W', Below W3.heap.size (F j) W' → ∃ j', W' = F j') ∧ (∀ j, AtIn (F j) (.slice (some ⟨ga, 0, none⟩) L.length cv) L)) := ⟨hst, hbe, hcl, hai⟩
    have z1 : ¬ ((b : Int) < 0) := by omega
    have z2 : ¬ ((G.length : Int) ≤ (b : Int)) := by omega
    have z3 : decide ((b : Int) < 0) = false := decide_eq_false z1
    have z4 : decide (G.length ≤ b) = false := decide_eq_false (by omega)
    obtain ⟨A, hA⟩ : ∃ A : Nat, (rg L (G.getD b pd0) n).1 = A := ⟨(rg L (G.getD b pd0) n).1.toNat, by omega⟩
    obtain ⟨Bv, hBv⟩ : ∃ B : Nat, (rg L (G.getD b pd0) n).2 = B := ⟨(rg L (G.getD b pd0) n).2.toNat, by omega⟩
    rw [hA, hBv] at HR hbd hofs c5
    rw [hBv] at c4
    have hB2n : Bv < 2 ^ n := by omega
    have hAB : A ≤ Bv := by omega
    have hcov : coverOf (A : Int) (Bv : Int) (n : Int) = cover A Bv n := by
      unfold coverOf
      rw [if_pos]
      · rfl
      · exact ⟨Iv.good_of (Nat.le_refl _) hn (by omega), Iv.good_of (Nat.le_refl _) hn hB2n⟩
    rw [hcov] at hofs
    obtain ⟨C, hC⟩ : ∃ C, C = cover A Bv n := ⟨_, rfl⟩
    have hlC : C.length ≤ 1000 := by rw [hC, ← hcov]; exact cover_len1000 _ _ _
    have HC : Hid (C.drop 0 = cover A Bv n) := (by rw [List.drop_zero]; exact hC : C.drop 0 = cover A Bv n)
    rw [← hC] at hofs
    have hl8 : (ofs L G n b).length = C.length := by rw [hofs, List.length_map]
    rw [hofs] at HO8 ⊢
    rw [List.length_map]
    have HCL : Hid (0 < C.length → ∃ g, a8 = some ⟨g, 0, none⟩ ∧ g < W3.heap.size ∧ C.length ≤ c8 ∧ ∀ j, j < C.length → W3.cell? ⟨g, j, none⟩ = some (.string (gname (G.getD b pd0).name (C.getD j iv0)))) := fun h0 => by
      obtain ⟨a, c, e, hh⟩ := HO8.out.shape
      simp at e
      obtain ⟨rfl, rfl⟩ := e
      obtain ⟨g, k1, k2, k3, k4⟩ := hh (by simpa using h0)
      refine ⟨g, k1, k2, by simpa using k3, fun j hj => ?_⟩
      rw [← map_getD_g _ _ _ hj]
      exact k4 j (by simpa using hj)
    have HNM : Hid (NameOk (G.getD b pd0).name) := hNm
    have HSZ : Hid (Bv < 2 ^ n) := hB2n
    have hBb : Bv ≤ 255 := by omega
    clear hst hbe hcl hai hkb HRG hA hBv hNm hpk c1 c2 c3 c4 c5 hB2n hcov hC hofs hl8 HO8 hbd
    generalize G.getD b pd0 = p at q0 q1 q2 q3 q4 HR HFK HCL HNM
    generalize L.getD kb at0 = x at f0 f1 f2 f3 HR
    go_wp2_with fail
    clear z1 z2 z3 z4
    have ix : (0 : Int) ≤ (kb : Int) ∧ (kb : Int) < (L.length : Int) := by omega
    have iy : (0 : Int) ≤ (b : Int) ∧ (b : Int) < (G.length : Int) := by omega
    refine wp_region_fam F HFF.out.1 (by kernel_rfl) (by kernel_rfl) ?_
    repeat (go_big_quiet_step (first
      | (go_at_call 16; refine Calls.mono (find_any _ L p.name _ (HFF.out.2.2.2 _) (by omega)) ?_; rintro e' w' ⟨⟨r, hs, hfr⟩, hb⟩; rw [found_at hfr HFK.out] at hs; exact ⟨hs, HFF.out.2.2.1 _ _ (hb.mono (HFF.out.2.1 _).size)⟩)
      | (go_at_call 15; refine Calls.mono (HR.out _) ?_; rintro e' w' ⟨hs, hb⟩; exact ⟨hs, HFF.out.2.2.1 _ _ (hb.mono (HFF.out.2.1 _).size)⟩)))
    refine wpQuiet_nil ?_
    rintro _ ⟨j, rfl⟩
    have B34 : Hid (Below W3.heap.size W3 (F j)) := HFF.out.2.1 j
    have M4 : Hid (Fm w (F j) (.slice (some ⟨ga, 0, none⟩) L.length cv) (.slice (some ⟨gp, 0, none⟩) G.length cg) L G) := M3.out.below B34.out
    have P4 : Hid ((F j).cell? ⟨gp, b * 5, none⟩ = some (.string p.name) ∧ gp < (F j).heap.size) := ⟨q0 j, cell_block (q0 j)⟩
    generalize F j = W4 at M4 B34 P4
    clear f0 f1 f2 f3 q0 q1 q2 q3 q4 HR HFK HFF M3 ix
    have HCL4 : Hid (0 < C.length → ∃ g, a8 = some ⟨g, 0, none⟩ ∧ g < W4.heap.size ∧ C.length ≤ c8 ∧ ∀ j, j < C.length → W4.cell? ⟨g, j, none⟩ = some (.string (gname p.name (C.getD j iv0)))) := fun h0 => by
      obtain ⟨g, h1, h2, h3, h4⟩ := HCL.out h0
      exact ⟨g, h1, Nat.lt_of_lt_of_le h2 B34.out.size, h3, fun j hj => (B34.out.cell (p := ⟨g, j, none⟩) h2).trans (h4 j hj)⟩
    clear HCL B34
    go_wp2
    go_loopg [15, 93] C.length (fun kx s15 s93 wr => ∃ i y : Nat, s93 = .int .i64 i ∧ s15 = .int .i64 y ∧ i ≤ C.length ∧ y ≤ Bv + 1 ∧ kx = C.length - i ∧ Hid (C.drop i = cover y Bv n) ∧ Hid (Below W4.heap.size W4 wr))
    case atStart => exact ⟨0, A, rfl, rfl, Nat.zero_le _, by omega, rfl, HC, (Below.refl _ _ : Below W4.heap.size W4 W4)⟩
    case round =>
      obtain ⟨i, y, rfl, rfl, hi, hy, rfl, HD, HB⟩ := hrel
      by_cases hlt : i < C.length
      · obtain ⟨g, rfl, hg, hcap, hj⟩ := HCL4.out (by omega)
        obtain ⟨hyB, hget, hnext⟩ := drop_cover HD.out hlt
        have d0 := (HB.out.cell (p := ⟨g, i, none⟩) hg).trans (hj i hlt)
        have dg : g < wr.heap.size := Nat.lt_of_lt_of_le hg HB.out.size
        have d1 := (HB.out.cell (p := ⟨gp, b * 5, none⟩) P4.out.2).trans P4.out.1
        rw [hget] at d0
        have hnf := nx_fits y Bv n hyB
        have hll := lv_le y Bv n
        have hfit := chain_fit y Bv n _ hll (by have := HSZ.out; omega)
        have HRD : Hid _ := fun W (hE : GEnv W) => read_of p.name (lv y Bv n) (y / 2 ^ (n - lv y Bv n)) n W hE HNM.out hll hn hfit
        have hcl := fun W => cells_yes (lv y Bv n) (y / 2 ^ (n - lv y Bv n)) n W hll hn hfit
        have hsum : (y / 2 ^ (n - lv y Bv n) + 1) * 2 ^ (n - lv y Bv n) = y + 2 ^ (n - lv y Bv n) := by rw [Nat.add_mul, hnf.1, Nat.one_mul]
        have hpp := pow_pos2 (n - lv y Bv n)
        rw [hsum, hnf.1] at hcl
        have HCS : Hid _ := hcl
        have hy2 := hnf.2
        have HNX : Hid _ := hnext
        have HI8 : Hid (lv y Bv n ≤ 8 ∧ y / 2 ^ (n - lv y Bv n) ≤ 256) := ⟨Nat.le_trans hll hn, Nat.le_trans (Nat.div_le_self _ _) (by omega)⟩
        have e3 : gname p.name (nx y Bv n) = gname p.name ⟨(lv y Bv n : Nat), ((y / 2 ^ (n - lv y Bv n) : Nat) : Int)⟩ := rfl
        rw [e3] at d0
        generalize gname p.name ⟨(lv y Bv n : Nat), ((y / 2 ^ (n - lv y Bv n) : Nat) : Int)⟩ = s at d0 HRD
        generalize 2 ^ (n - lv y Bv n) = P at hpp hy2 HNX HRD HCS HI8
        obtain ⟨z, hz⟩ : ∃ z : Nat, z + 1 = y + P := ⟨y + P - 1, by omega⟩
        rw [← hz] at HCS HNX
        have ez : ((z + 1 : Nat) : Int) - 1 = z := by omega
        rw [ez] at HCS
        have hzy : y ≤ z := by omega
        have hz1 : z + 1 ≤ Bv + 1 := by omega
        clear ez hz hy2
        generalize y / P = iq at HRD HCS HI8
        generalize lv y Bv n = lq at HRD HCS HI8
        clear hj hget hnext hfit hcl hsum hnf hll e3
        have MR : Hid (Fm w wr (.slice (some ⟨ga, 0, none⟩) L.length cv) (.slice (some ⟨gp, 0, none⟩) G.length cg) L G) := M4.out.below HB.out
        go_wp2_with fail
        refine Calls.mono (HRD.out _ MR.out.env) ?_
        rintro e W5 ⟨rfl, b5⟩
        have d2 := cell_grown d1 b5
        have dl := cell_block d2
        have HB5 : Hid (Below W4.heap.size W4 W5) := HB.out.trans (b5.mono HB.out.size)
        have D2 : Hid (W5.cell? ⟨gp, b * 5, none⟩ = some (.string p.name) ∧ gp < W5.heap.size) := ⟨d2, dl⟩
        clear b5 d0 d1 dg HRD MR d2 dl
        go_wp2_with fail
        refine Calls.mono (HCS.out _) ?_
        rintro e W6 ⟨rfl, b6⟩
        have d3 := (b6.cell (p := ⟨gp, b * 5, none⟩) (by simp; exact Nat.lt_succ_of_lt D2.out.2)).trans ((Below.cell (dbel1 _ _) (p := ⟨gp, b * 5, none⟩) D2.out.2).trans D2.out.1)
        have dl := cell_block d3
        have HB6 : Hid (Below W4.heap.size W4 W6) := HB5.out.trans (((dbel1 _ _).trans (b6.mono (by simp))).mono HB5.out.size)
        clear b6 D2 HB5
        have x1 : ¬ ((z : Int) < (y : Int)) := by omega
        go_wp2
        go_roundg (C.length - (i + 1))
        case measure => omega
        case rel => exact ⟨i + 1, z + 1, by go_num, by go_num, by omega, hz1, rfl, HNX, HB6⟩
      · have hend : y = Bv + 1 := by
          have h1 := HD.out
          rw [List.drop_eq_nil_of_le (by omega)] at h1
          apply Classical.byContradiction; intro hh
          rw [cover_step y Bv n (by omega)] at h1
          cases h1
        subst hend
        have MR : Hid (Fm w wr (.slice (some ⟨ga, 0, none⟩) L.length cv) (.slice (some ⟨gp, 0, none⟩) G.length cg) L G) := M4.out.below HB.out
        go_wp2_with fail
        refine Calls.mono (awake8_any _ MR.out.env) ?_
        rintro e W6 ⟨rfl, b6⟩
        have B6 : Hid (Below w.heap.size w W6) := (MR.out.below b6).bel
        clear b6
        go_wp2
        go_ret
        exact ⟨rfl, B6.out⟩
  · clear hCh
    have HNO : Hid (¬ GoodF L G a2) := hno
    clear hno
    go_wp2_with fail
    refine Calls.mono HOF.out ?_
    rintro e W3 ⟨hOf, b3⟩
    have M3 : Hid (Fm w W3 (.slice av L.length cv) (.slice ag G.length cg) L G) := M2b.out.below b3
    rcases hOf.way with ⟨n', b', v8, hnn, rfl, hGd', hB', r8⟩ | ⟨t, x, rfl, hno⟩
    · exact absurd hGd' HNO.out
    clear hOf hno b3 M2b HOF
    go_wp2_with fail
    refine Calls.mono (awake8_any _ M3.out.env) ?_
    rintro e W4 ⟨rfl, b4⟩
    have B4 : Hid (Below w.heap.size w W4) := (M3.out.below b4).bel
    clear b4
    go_wp2
    go_ret
    exact ⟨rfl, B4.out⟩
end Go.Proofs.YtiafamfnbpbfiaaDoor

/- What five tied variables give a walk: strconv's table, and its two errors besides. -/
namespace Go.Proofs.YtiafamfnbpbfiaaDoor
open Go.ChangeShapes Go.WideShapes Go.ChangeAt Go.RowKit Go.Extern.Stop Go.Stop Go.Extern
set_option linter.unusedVariables false

abbrev seatLaid5 : List (String × DataW Unit) := [("math/bits.deBruijn32tab", Rows.laid_math_bits_deBruijn32tab), ("math/bits.deBruijn64tab", Rows.laid_math_bits_deBruijn64tab), ("internal/strconv.uint64pow10", Rows.laid_internal_strconv_uint64pow10), ("strconv.ErrRange", Rows.laid_strconv_ErrRange), ("strconv.ErrSyntax", Rows.laid_strconv_ErrSyntax)]
set_option maxRecDepth 100000 in
theorem genv_of_laid5 {W : World} (h : laidMetH Tryd.prog seatLaid5 W) : GEnv W := by
  obtain ⟨h1, h2⟩ := laidMetH_iff.1 h
  have f1 := h1.filter (fun x => x.1 == "internal/strconv.uint64pow10")
  have g1 : laidMet Tryd.prog [("internal/strconv.uint64pow10", Lib.tabData .u64 Lib.pow10Tab)] W := f1
  refine ⟨Lib.tabIs_of_head (P := Tryd.prog) (g := 3) (by kernel_rfl) (t := 143) (by kernel_rfl) Tryd.underlying143 Tryd.underlying122 (by kernel_rfl) (by kernel_rfl) g1, ?_⟩
  obtain ⟨ps, ⟨g', t', cs, fuel, p, q, hg', ht', hvar, hd, _, _⟩, _⟩ := g1
  have hgg : Tryd.prog.globalNamed "internal/strconv.uint64pow10" = some 3 := by kernel_rfl
  unfold World.var? at hvar
  rw [hgg] at hvar
  simp only [Option.bind_some] at hvar
  rcases Nat.lt_or_ge 3 W.heap.size with q | q
  · exact q
  · rw [Array.getElem?_eq_none q] at hvar; simp at hvar
/-- A world in which the variables hold what they should: that there is one. -/
def witHeap5 (h : Array Obj) : Array Obj :=
  ((setB (setB (setB (setB (setB h 1 #[.iface 139 (.pointer (some ⟨h.size, 0, none⟩))]) 2 #[.iface 139 (.pointer (some ⟨h.size + 1, 0, none⟩))])
    3 (litCells Rows.laid_internal_strconv_uint64pow10)) 4 (litCells Rows.laid_math_bits_deBruijn32tab)) 5 (litCells Rows.laid_math_bits_deBruijn64tab)).push
      (.cells #[.string ⟨#[105, 110, 118, 97, 108, 105, 100, 32, 115, 121, 110, 116, 97, 120]⟩] 141)).push (.cells #[.string ⟨#[118, 97, 108, 117, 101, 32, 111, 117, 116, 32, 111, 102, 32, 114, 97, 110, 103, 101]⟩] 141)
theorem wit_laid5 (os : Os) : laidMetH Tryd.prog seatLaid5 { World.holding Tryd.prog os ⟨#[], #[], []⟩ with heap := witHeap5 (World.holding Tryd.prog os ⟨#[], #[], []⟩).heap } :=
  laidMetH_of_parts (laidMet_of_run' 8 (by kernel_rfl) (by kernel_rfl)) (by kernel_rfl)
end Go.Proofs.YtiafamfnbpbfiaaDoor
