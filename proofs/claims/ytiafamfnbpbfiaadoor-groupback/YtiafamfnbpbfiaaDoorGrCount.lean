/- How many groups a filter and an event have in common. No program's walk in sight. -/
import Derived.Test.YtiafamfnbpbfiaaDoorGrReach
import Derived.Test.YtiafamfnbpbfiaaDoorGrInj
import Derived.Test.YtiafamfnbpbfiaaDoorDyOnce
namespace Go.Proofs.YtiafamfnbpbfiaaDoor
open Go.RowKit
set_option linter.unusedVariables false

def nS (l : List ByteArray) (x : ByteArray) : Nat := l.countP fun y => decide (y = x)
def cntS (l m : List ByteArray) : Nat := (l.map fun a => nS m a).sum
theorem cntS_cons (a : ByteArray) (l m : List ByteArray) : cntS (a :: l) m = nS m a + cntS l m := by simp [cntS]
theorem cntS_take (l m : List ByteArray) (k : Nat) (hk : k < l.length) : cntS (l.take (k + 1)) m = cntS (l.take k) m + nS m (l.getD k ByteArray.empty) := by
  rw [List.take_succ_eq_append_getElem hk]
  unfold cntS
  rw [List.map_append, List.sum_append]
  simp [hk]
theorem nS_take (l : List ByteArray) (x : ByteArray) (k : Nat) (hk : k < l.length) : nS (l.take (k + 1)) x = nS (l.take k) x + if x = l.getD k ByteArray.empty then 1 else 0 := by
  unfold nS
  rw [List.take_succ_eq_append_getElem hk, List.countP_append]
  have e : l.getD k ByteArray.empty = l[k] := by simp [List.getD, hk]
  rw [e, List.countP_cons, List.countP_nil]
  by_cases h : x = l[k]
  · rw [if_pos h, if_pos (by simp [h])]
  · rw [if_neg h, if_neg (by simpa using fun hh => h hh.symm)]
theorem nS_le (l : List ByteArray) (x : ByteArray) : nS l x ≤ l.length := List.countP_le_length
theorem cntS_le (l m : List ByteArray) : cntS l m ≤ l.length * m.length := by
  induction l with
  | nil => simp [cntS]
  | cons a l ih => rw [cntS_cons, List.length_cons, Nat.add_mul]; have := nS_le m a; omega
theorem gname_same {a b : ByteArray} {x y : Iv} (ha : NameOk a) (hb : NameOk b) (hx : x.small) (hy : y.small) (h : gname a x = gname b y) : a = b ∧ x = y := by
  obtain ⟨l, i⟩ := x
  obtain ⟨m, j⟩ := y
  obtain ⟨h1, h2, h3, h4⟩ := hx
  obtain ⟨g1, g2, g3, g4⟩ := hy
  simp at h1 h2 h3 h4 g1 g2 g3 g4
  obtain ⟨l, rfl⟩ : ∃ n : Nat, l = n := ⟨l.toNat, by omega⟩
  obtain ⟨i, rfl⟩ : ∃ n : Nat, i = n := ⟨i.toNat, by omega⟩
  obtain ⟨m, rfl⟩ : ∃ n : Nat, m = n := ⟨m.toNat, by omega⟩
  obtain ⟨j, rfl⟩ : ∃ n : Nat, j = n := ⟨j.toNat, by omega⟩
  obtain ⟨e1, rfl, rfl⟩ := gname_inj ha hb h
  exact ⟨e1, rfl⟩
theorem count_other {a b : ByteArray} {y : Iv} (ha : NameOk a) (hb : NameOk b) (hne : a ≠ b) (hy : y.small) : ∀ (xs : List Iv), (∀ x ∈ xs, x.small) → nS (xs.map (gname b)) (gname a y) = 0 := by
  intro xs hxs
  refine List.countP_eq_zero.2 fun z hz hh => ?_
  obtain ⟨x, hx, e⟩ := List.mem_map.1 hz
  exact hne (gname_same ha hb hy (hxs x hx) ((of_decide_eq_true hh).symm.trans e.symm)).1
theorem count_same {a : ByteArray} {y : Iv} (ha : NameOk a) (hy : y.small) : ∀ (xs : List Iv), (∀ x ∈ xs, x.small) → nS (xs.map (gname a)) (gname a y) = xs.count y := by
  intro xs
  induction xs with
  | nil => intro _; rfl
  | cons x xs ih =>
    intro hxs
    have ih' := ih (fun z hz => hxs z (by simp [hz]))
    unfold nS at *
    rw [List.map_cons, List.countP_cons, List.count_cons, ih']
    by_cases e : x = y
    · subst e; simp
    · have h1 : (x == y) = false := by simpa using e
      have h2 : decide (gname a x = gname a y) = false := decide_eq_false fun h => e (gname_same ha ha (hxs x (by simp)) hy h).2
      simp [h1, h2]
theorem nS_append (l m : List ByteArray) (x : ByteArray) : nS (l ++ m) x = nS l x + nS m x := by unfold nS; rw [List.countP_append]
theorem count_reach {az : List At} {vs : List Vl} {L : Int} (hs : SchemaOk az) {k : Nat} (hk : k < az.length) {y : Iv} (hy : y.small) : ∀ m, m ≤ az.length →
    nS (reachs az vs L m) (gname (az.getD k at0).name y) = if k < m then (chainOf (cellOf (az.getD k at0) (vs.getD k vl0) L) L).count y else 0 := by
  intro m
  induction m with
  | zero => intro _; simp [reachs, nS]
  | succ m ih =>
    intro hm
    rw [reachs, nS_append, ih (by omega)]
    unfold rchAt
    have hnk := (hs.2.2 k hk).1.1
    have hnm := (hs.2.2 m (by omega)).1.1
    by_cases e : k = m
    · subst e
      rw [if_neg (by omega), if_pos (by omega), count_same hnk hy _ (chainOf_small _ _)]; omega
    · have hne : (az.getD k at0).name ≠ (az.getD m at0).name := by
        rcases Nat.lt_or_ge k m with h | h
        · exact (hs.2.2 m (by omega)).2 k h
        · exact fun h' => (hs.2.2 k hk).2 m (by omega) h'.symm
      rw [count_other hnk hnm hne hy _ (chainOf_small _ _)]
      by_cases h : k < m
      · rw [if_pos h, if_pos (by omega)]; omega
      · rw [if_neg h, if_neg (by omega)]
theorem cntS_met {az : List At} {vs : List Vl} {L : Int} (hs : SchemaOk az) {k : Nat} (hk : k < az.length) : ∀ (ys : List Iv), (∀ y ∈ ys, y.small) →
    cntS (ys.map (gname (az.getD k at0).name)) (reachs az vs L az.length) = cnt (chainOf (cellOf (az.getD k at0) (vs.getD k vl0) L) L) ys := by
  intro ys
  induction ys with
  | nil => intro _; rw [cnt_nil]; rfl
  | cons y ys ih =>
    intro hys
    rw [List.map_cons, cntS_cons, cnt_cons, ih (fun z hz => hys z (by simp [hz])), count_reach hs hk (hys y (by simp)) _ (Nat.le_refl _), if_pos hk]
/-- The ranges of a predicate of the schema are cells. -/
theorem rg_cells {az : List At} {p : Pd} {n k : Nat} (hn : n ≤ 8) (ha : AttrOk (az.getD k at0)) (hf : FindAt az p.name k) (hp : PredOk (az.getD k at0) p) : 0 ≤ (rg az p n).1 ∧ 0 ≤ (rg az p n).2 ∧ (rg az p n).1 < ((2 ^ n : Nat) : Int) ∧ (rg az p n).2 < ((2 ^ n : Nat) : Int) := by
  unfold rg
  rw [posA_is hf]
  rcases hp with ⟨o1, k1, b1, b2, b3, b4⟩ | ⟨o1, k1, b1, b2, b3⟩
  · have hk : -2147483648 ≤ (az.getD k at0).mn ∧ (az.getD k at0).mx ≤ 2147483648 := by
      rcases ha.2 with h | h
      · exact ⟨h.2.1, h.2.2.2⟩
      · omega
    rw [rangeOf_1 o1]
    have r1 := rise_num (a := az.getD k at0) (v := ⟨p.lo, ByteArray.empty⟩) (u := ⟨p.hi, ByteArray.empty⟩) hn k1 hk.1 hk.2 b1 b2 b3
    exact ⟨r1.1, Int.le_trans r1.1 r1.2, cellOf_hi _ _ _ hn, cellOf_hi _ _ _ hn⟩
  · have hk : ¬ (az.getD k at0).kind = 1 := by omega
    have h0 : ∀ v, 0 ≤ cellOf (az.getD k at0) v n := fun v => (rise_text (v := v) (u := v) hn hk (Nat.le_refl _)).1
    by_cases h2 : p.op = 2
    · rw [rangeOf_2 h2]
      exact ⟨h0 _, h0 _, cellOf_hi _ _ _ hn, cellOf_hi _ _ _ hn⟩
    · rw [rangeOf_3 (by rcases o1 with h | h <;> omega) h2]
      exact ⟨h0 _, h0 _, cellOf_hi _ _ _ hn, cellOf_hi _ _ _ hn⟩
theorem met_count {az : List At} {f : List Pd} {vs : List Vl} {n b k : Nat} (hn : n ≤ 8) (hs : SchemaOk az) (hf : FindAt az (f.getD b pd0).name k) (hp : PredOk (az.getD k at0) (f.getD b pd0)) :
    cntS (ofs az f n b) (reachs az vs n az.length) = if (rg az (f.getD b pd0) n).1 ≤ cellOf (az.getD k at0) (vs.getD k vl0) n ∧ cellOf (az.getD k at0) (vs.getD k vl0) n ≤ (rg az (f.getD b pd0) n).2 then 1 else 0 := by
  have hk : k < az.length := hf.1
  unfold ofs
  have en : (f.getD b pd0).name = (az.getD k at0).name := hf.2.1.symm
  rw [en, cntS_met hs hk _ (coverOf_small _ _ _)]
  obtain ⟨h1, h2, h3, h4⟩ := rg_cells hn (hs.2.2 k hk).1 hf hp
  generalize rg az (f.getD b pd0) n = r at *
  obtain ⟨lo, hi⟩ := r
  simp only at *
  obtain ⟨lo, rfl⟩ : ∃ m : Nat, lo = m := ⟨lo.toNat, by omega⟩
  obtain ⟨hi, rfl⟩ : ∃ m : Nat, hi = m := ⟨hi.toNat, by omega⟩
  rw [coverOf_nat hn (by omega) (by omega)]
  exact cnt_of _ _ lo hi n rfl hn (by omega)
end Go.Proofs.YtiafamfnbpbfiaaDoor
