/- Two ends and rows: texts that come in; what LinkLate's rounds do. -/
import Derived.Test.YtgbdnclolgdojaaLinkLr
import Derived.Test.YtgbdnclolgdojaaInRow
import Derived.Test.YtgbdnclolgdojaaCut
namespace Go.Proofs.Ytgbdnclolgdojaa
open Go.ChangeShapes Go.WideShapes Go.ChangeAt Go.RowKit
set_option linter.unusedVariables false

theorem str_at {w W : World} {a : Option Addr} {len : Nat} {t : List ByteArray} (h : InRow 1 encS okS ByteArray.empty w a len t) (hb : Below w.heap.size w W) {i : Nat} (hi : i < len) : ∃ b o, a = some ⟨b, o, none⟩ ∧ b < W.heap.size ∧ okS (t.getD i ByteArray.empty) ∧ W.cell? ⟨b, o + i, none⟩ = some (.string (t.getD i ByteArray.empty)) := by
  obtain ⟨b, o, rfl, hlt, hc⟩ := h.2.2.resolve_left (by omega)
  refine ⟨b, o, rfl, Nat.lt_of_lt_of_le hlt hb.size, (hc i hi).1, ?_⟩
  have e := (hc i hi).2 0 (by omega)
  have e3 : W.cell? ⟨b, o + i * 1 + 0, none⟩ = w.cell? ⟨b, o + i * 1 + 0, none⟩ := hb.cell (p := ⟨b, o + i * 1 + 0, none⟩) hlt
  rw [e] at e3
  simpa [encS] using e3
theorem Lrw.less {w wr : World} {m k : Nat} {V : Nat → Value} {L : Nat → List ByteArray} {x y : Lk} (h : Lrw w wr m V L x y) (hk : k ≤ m) : Lrw w wr k V L x y :=
  ⟨h.two, fun i hi => h.own i (by omega), fun i j hi hj => h.ap i j (by omega) (by omega), fun p hp a n c hc => (h.ca p hp a n c hc).imp id (fun q z hz i hi => q z hz i (by omega))⟩
theorem Lrw.ext {w wr : World} {m : Nat} {V V' : Nat → Value} {L L' : Nat → List ByteArray} {x y : Lk} (h : Lrw w wr m V L x y) (hV : ∀ i, i < m → V' i = V i) (hL : ∀ i, i < m → L' i = L i) : Lrw w wr m V' L' x y :=
  ⟨h.two, fun i hi => by rw [hV i hi, hL i hi]; exact h.own i hi, fun i j hi hj hne b hb => by rw [hV j hj]; rw [hV i hi] at hb; exact h.ap i j hi hj hne b hb, fun p hp a n c hc => (h.ca p hp a n c hc).imp id (fun q z hz i hi => by rw [hV i hi]; exact q z hz i hi)⟩
theorem Lrw.bel {w wr : World} {m : Nat} {V : Nat → Value} {L : Nat → List ByteArray} {x y : Lk} (h : Lrw w wr m V L x y) : Below w.heap.size w wr := h.two.bel
/-- A packet of a side that pushed X and got nothing. -/
def OldP (X : List ByteArray) (s : ByteArray) : Prop := ∃ n0 c s0, s.data.toList = pkB n0 c s0 ∧ Tru X 0 n0 c s0
/-- The state of LinkLate: i rounds are over; k texts have come. -/
structure Lt (w wr : World) (m : Nat) (V : Nat → Value) (L : Nat → List ByteArray) (x y : Lk) (X : List ByteArray) : Prop where
  lr : Lrw w wr m V L x y
  inv : Inv x y X []
  old : ∀ s ∈ L 0, OldP X s
  txt : ∀ t ∈ X, t.size ≤ 50
  len : X.length ≤ 30
theorem Lt.came0 {w wr : World} {m : Nat} {V : Nat → Value} {L : Nat → List ByteArray} {x y : Lk} {X : List ByteArray} (h : Lt w wr m V L x y X) : x.came = 0 ∧ y.q = [] ∧ 0 ≤ x.acked ∧ x.acked ≤ y.came ∧ y.came ≤ X.length := by
  have h1 := h.inv.y2
  have h2 := h.inv.y0
  have h3 := h.inv.y1
  refine ⟨by simp at h1; omega, by rw [h.inv.yq]; simp, h.inv.x0, h.inv.x1, h.inv.x2⟩
theorem Lt.ok {w wr : World} {m : Nat} {V : Nat → Value} {L : Nat → List ByteArray} {x y : Lk} {X : List ByteArray} (h : Lt w wr m V L x y X) {n c : Int} {s : ByteArray} (ht : Tru X 0 n c s) : PkOk n c s :=
  tru_ok ht (by have := h.len; omega) (by omega) (fun t ht => by have := h.txt t ht; omega)
/-- What x sends, as old packets. -/
theorem out_old {x y : Lk} {X : List ByteArray} (h : Inv x y X []) {P : List ByteArray} (hP : bys P = x.out) {j : Nat} (hj : j < P.length) :
    ∃ n0 s0, (tx P j).data.toList = pkB n0 0 s0 ∧ Tru X 0 n0 0 s0 ∧ (x.q ≠ [] → n0 = x.acked + j) ∧ (x.q = [] → n0 = -1) := by
  obtain ⟨n0, s0, hpk, htru, h1, h2⟩ := out_true h j (by rw [← bys_len hP]; exact hj)
  have e0 := bys_get hP j hj
  have hc : x.came = 0 := by have h1 := h.y2; have h2 := h.y0; have h3 := h.y1; simp at h1; omega
  rw [hpk, hc] at e0
  rw [hc] at htru
  exact ⟨n0, s0, e0, htru, h1, h2⟩
theorem lout_len {l : Lk} : l.out.length ≤ 8 := by
  unfold Lk.out; split
  · split <;> simp
  · simp [Lk.fst]; omega
theorem lout_q {l : Lk} (h : l.q ≠ []) : l.out.length = min l.q.length 8 := by unfold Lk.out; rw [if_neg h]; simp [Lk.fst]
theorem lout_owes {l : Lk} (h : l.q = []) : 0 < l.out.length ↔ l.owes = true := by
  unfold Lk.out; rw [if_pos h]
  cases l.owes <;> simp
/-- Within the first inner loop: j packets of x have been taken. -/
structure L3 (x y : Lk) (k j : Nat) : Prop where
  cm : y.came = if x.q = [] then (k : Int) else (k : Int) + j
  ow : x.q ≠ [] → 0 < j → y.owes = true
theorem L3.step {x y : Lk} {k j : Nat} {n0 : Int} (h : L3 x y k j) (ha : x.acked = k) (h1 : x.q ≠ [] → n0 = x.acked + j) (h2 : x.q = [] → n0 = -1) : L3 x (y.got n0 0) k (j + 1) := by
  refine ⟨?_, fun hq _ => got_owes (by rw [h1 hq]; omega)⟩
  rw [got_came]
  have hc := h.cm
  by_cases hq : x.q = []
  · rw [if_pos hq] at hc ⊢
    rw [if_neg (fun hh => hh.1 (h2 hq)), hc]
  · rw [if_neg hq] at hc ⊢
    have := h1 hq
    rw [if_pos ⟨by omega, by omega⟩, hc]; omega
theorem ans_no {y : Lk} {n0 : Int} {s0 : ByteArray} (h : n0 = -1 ∨ n0 ≠ y.came) : y.ans n0 s0 = (ByteArray.empty, false) := by
  unfold Lk.ans
  rw [if_neg (fun hh => h.elim (fun e => hh.1 e) (fun e => e hh.2))]
theorem getD_mem' {l : List ByteArray} {i : Nat} (h : i < l.length) : l.getD i ByteArray.empty ∈ l := by
  rw [List.getD_eq_getElem?_getD, List.getElem?_eq_getElem h]; simp
theorem below_dr (w : World) (n : Nat) : Below w.heap.size w (w.drewN n) := ⟨rfl, rfl, rfl, Nat.le_refl _, fun _ _ => rfl⟩
end Go.Proofs.Ytgbdnclolgdojaa
