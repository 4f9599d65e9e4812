/- What the document's New leaves. -/
import Derived.Test.YtmajlldfiiokoaaGreatDoorRfNb
namespace Go.Proofs.YtmajlldfiiokoaaGreatDoor
open Go.ChangeShapes Go.WideShapes Go.ChangeAt Go.RowKit Go.Deep
set_option linter.unusedVariables false

def itn (l : List Int) (n : Int) : Nat → Int
  | 0 => n
  | j + 1 => nx l (itn l n j)
def lst (l : List Int) (n : Int) : Nat → List Int
  | 0 => []
  | j + 1 => lst l n j ++ [itn l n (j + 1)]
theorem lst_len (l : List Int) (n : Int) (j : Nat) : (lst l n j).length = j := by
  induction j with
  | zero => rfl
  | succ j ih => simp [lst, ih]
theorem itn_rng {l : List Int} (h : ∀ n, 0 ≤ n → n < 4 → 0 ≤ nx l n ∧ nx l n < 4) {n : Int} (h0 : 0 ≤ n) (h4 : n < 4) (j : Nat) : 0 ≤ itn l n j ∧ itn l n j < 4 := by
  induction j with
  | zero => exact ⟨h0, h4⟩
  | succ j ih => exact h _ ih.1 ih.2
theorem lst_ok {l : List Int} (h : ∀ n, 0 ≤ n → n < 4 → 0 ≤ nx l n ∧ nx l n < 4) {n : Int} (h0 : 0 ≤ n) (h4 : n < 4) (j : Nat) : ∀ x ∈ lst l n j, i64 x := by
  induction j with
  | zero => intro x hx; cases hx
  | succ j ih =>
    intro x hx
    rcases List.mem_append.1 hx with q | q
    · exact ih x q
    · simp at q
      have := itn_rng h h0 h4 (j + 1)
      rw [q]; unfold i64; omega

/-- A member's list that grows in its box. -/
structure In4 (wr wq : World) (id : Int) (vS : Value) (l : List Int) (n : Int) (j : Nat) : Prop where
  box : wq.heap[wr.heap.size]? = some (.cells #[.int .u64 id, .int .i64 (-1), vS] 140 (0, 0))
  row : wq.ownsRow (wr.heap.size + 1) 3 1 vS j ((lst l n j).map cellI)
  bel : Below wr.heap.size wr wq
theorem In4.below {wr wq wq' : World} {id : Int} {vS : Value} {l : List Int} {n : Int} {j : Nat} (h : In4 wr wq id vS l n j) (hb : Below wq.heap.size wq wq') : In4 wr wq' id vS l n j :=
  ⟨(hb.block _ (lt_of_block h.box)).trans h.box, row_below h.row hb, h.bel.trans (hb.mono h.bel.size)⟩
theorem In4.app {wr wq w3 : World} {id y : Int} {vS v' : Value} {l : List Int} {n : Int} {j : Nat} (h : In4 wr wq id vS l n j) (hy : y = itn l n (j + 1)) (ha : Appended (wr.heap.size + 1) 3 wq w3 vS v' (j + 1) ((lst l n j).map cellI ++ [cellI y])) : In4 wr (w3.setCell ⟨wr.heap.size, 2, none⟩ v') id v' l n (j + 1) := by
  subst hy
  have hg := ha.grown
  have hbl := lt_of_block h.box
  have hq : w3.heap[wr.heap.size]? = wq.heap[wr.heap.size]? := hg.block _ hbl (fun e => by have := (h.row.lt _ e.symm).1; omega)
  refine ⟨by simpa using bx_set (j := 2) (hq.trans h.box) v', ?_, ?_⟩
  · have hr : w3.ownsRow (wr.heap.size + 1) 3 1 v' (j + 1) ((lst l n (j + 1)).map cellI) := by
      have := ha.row
      simpa [lst] using this
    exact row_kept hr (fun g hgg => Below.heap_setCell _ _ _ _ (by have := (hr.lt g hgg).1; simp; omega))
  · exact (h.bel.trans ⟨hg.os, hg.tape, hg.output, hg.size, fun k hk => hg.block k (by omega) (fun e => by have := (h.row.lt _ e.symm).1; omega)⟩).setCell (by show wr.heap.size ≤ wr.heap.size; omega) _
theorem In4.start (wr : World) (id : Int) (l : List Int) (n : Int) : In4 wr (wr.alloc (.cells #[.int .u64 id, .int .i64 (-1), .slice none 0 0] 140)) id (.slice none 0 0) l n 0 :=
  ⟨heap_alloc_new wr _, World.ownsRow_nil _ _ _ 1, below_one _ _⟩

/-- The lists that are laid. -/
def LsD (T : Nat) (w : World) (l : List Int) (P : List Pr3) (k : Nat) : Prop := ∀ n : Nat, n < k → ∃ g c, P.getD n pr30 = ⟨l.getD n 0, itn l n 3, some ⟨g, 0, none⟩, 3, c⟩ ∧ InIn w (some ⟨g, 0, none⟩) 3 (lst l n 3) ∧ T ≤ g ∧ 3 ≤ c ∧ c ≤ 9223372036854775807
theorem LsD.below {T : Nat} {w w' : World} {l : List Int} {P : List Pr3} {k : Nat} (h : LsD T w l P k) (hb : Below w.heap.size w w') : LsD T w' l P k := fun n hn => by
  obtain ⟨g, c, h1, h2, h3⟩ := h n hn
  exact ⟨g, c, h1, h2.below (Nat.le_refl _) hb, h3⟩
theorem LsD.set {T : Nat} {w : World} {l : List Int} {P : List Pr3} {k : Nat} (h : LsD T w l P k) {p : Nat} (hp : p < T) (o : Nat) (u : Value) : LsD T (w.setCell ⟨p, o, none⟩ u) l P k := fun n hn => by
  obtain ⟨g, c, h1, h2, h3⟩ := h n hn
  exact ⟨g, c, h1, h2.setCell (fun x hx => by cases hx; show g ≠ p; omega) u, h3⟩
theorem LsD.step {T : Nat} {w : World} {l : List Int} {P : List Pr3} {k : Nat} (h : LsD T w l P k) (hk : k < P.length) {g c : Nat} (hi : InIn w (some ⟨g, 0, none⟩) 3 (lst l k 3)) (hg : T ≤ g) (hc : 3 ≤ c ∧ c ≤ 9223372036854775807) : LsD T w l (P.set k ⟨l.getD k 0, itn l k 3, some ⟨g, 0, none⟩, 3, c⟩) (k + 1) := fun n hn => by
  by_cases e : n = k
  · subst e
    exact ⟨g, c, by simp [List.getD, hk], hi, hg, hc⟩
  · obtain ⟨g', c', h1, h2⟩ := h n (by omega)
    refine ⟨g', c', ?_, h2⟩
    rw [← h1]
    simp [List.getD, Ne.symm e]
theorem NwA.set3 {B : Nat} {w0 w : World} {b : Nat} {v0 v1 v2 : Value} {gp cp : Nat} {U L : List Bool} {I : List Int} {P : List Pr3} (h : NwA B w0 w b v0 v1 v2 (.slice (some ⟨gp, 0, none⟩) P.length cp) U L I P) {k : Nat} (hk : k < P.length) (q : Pr3) : NwA B w0 (((w.setCell ⟨gp, k * 3, none⟩ (.int .u64 q.id)).setCell ⟨gp, k * 3 + 1, none⟩ (.int .i64 q.pred)).setCell ⟨gp, k * 3 + 2, none⟩ (.slice q.a q.len q.cap)) b v0 v1 v2 (.slice (some ⟨gp, 0, none⟩) P.length cp) U L I (P.set k q) := by
  have e0 : P.getD k pr30 = P[k] := by simp [List.getD, hk]
  have h1 := h.setP (k := k) (j := 0) hk (by omega) (.int .u64 q.id) ⟨q.id, P[k].pred, P[k].a, P[k].len, P[k].cap⟩ (by rw [e0]; rfl)
  have h2 := h1.setP (k := k) (j := 1) (by rw [List.length_set]; exact hk) (by omega) (.int .i64 q.pred) ⟨q.id, q.pred, P[k].a, P[k].len, P[k].cap⟩ (by simp [List.getD, hk, Pr3.cells])
  have h3 := h2.setP (k := k) (j := 2) (by simp [hk]) (by omega) (.slice q.a q.len q.cap) q (by simp [List.getD, hk, Pr3.cells])
  simpa using h3

def b4 (j : Nat) : List Bool := (List.range j).map fun k => decide (k < 4)
def i4 (l : List Int) (j : Nat) : List Int := (List.range 32).map fun k => if k < j then l.getD k 0 else 0
theorem b4_succ (j : Nat) : b4 j ++ [decide ((j : Int) < 4)] = b4 (j + 1) := by
  have e : decide ((j : Int) < 4) = decide (j < 4) := by
    rw [decide_eq_decide]; omega
  rw [e]; simp [b4, List.range_succ]
theorem b4_len (j : Nat) : (b4 j).length = j := by simp [b4]
theorem i4_len (l : List Int) (j : Nat) : (i4 l j).length = 32 := by simp [i4]
theorem i4_zero (l : List Int) : i4 l 0 = List.replicate 32 0 := by
  refine List.eq_replicate_iff.2 ⟨i4_len l 0, fun x hx => ?_⟩
  obtain ⟨k, _, rfl⟩ := List.mem_map.1 hx
  simp
theorem i4_set (l : List Int) (j : Nat) (hj : j < 32) : (i4 l j).set j (l.getD j 0) = i4 l (j + 1) := by
  apply List.ext_getElem (by simp [i4])
  intro k h1 h2
  simp only [i4, List.getElem_set, List.getElem_map, List.getElem_range]
  by_cases e : j = k
  · rw [if_pos e, if_pos (by omega), e]
  · rw [if_neg e]
    by_cases q : k < j
    · rw [if_pos q, if_pos (by omega)]
    · rw [if_neg q, if_neg (by omega)]
theorem new_rows {l S : List Int} {c0 c1 c2 c3 : Int} (h : Circ l (circleOf l S) c0 c1 c2 c3) (hp : S.Pairwise (· < ·)) (hm : ∀ x, x ∈ S ↔ x ∈ l) (hu : ∀ k : Nat, Plc (l.getD k 0)) :
    usL (newTo l (circleOf l S) 4) = b4 32 ∧ lvL (newTo l (circleOf l S) 4) = b4 32 ∧ idL (newTo l (circleOf l S) 4) = i4 l 4 ∧ ∀ k : Nat, k < 32 → ∀ x, (newTo l (circleOf l S) 4).kn k = some x → k < 4 ∧ x = ⟨l.getD k 0, itn l k 3, lst l k 3⟩ := by
  have hkn := fun n h0 h4 => new_kn h (h.rise hp hm) hu n h0 h4
  have hkN := h.kn.2.2.2.2.2.2.2.2
  have hplX : ∀ n, n ∉ [c0, c1, c2, c3] → (newTo l (circleOf l S) 4).pl n = none := fun n hn => by
    rw [h.eq]
    simp only [List.mem_cons, List.not_mem_nil, or_false, not_or] at hn
    simp [newTo, Rg.setK, Rg.setP, upd, rg0, hn.1, hn.2.1, hn.2.2.1, hn.2.2.2]
  have hout : ∀ k : Nat, ¬ k < 4 → (k : Int) ∉ [c0, c1, c2, c3] := fun k hk hq => by have := h.rng _ hq; omega
  generalize newTo l (circleOf l S) 4 = R at *
  refine ⟨?_, ?_, ?_, fun k hk x hx => ?_⟩
  · apply List.ext_getElem (by simp [usL, b4])
    intro k h1 h2
    simp only [usL, b4, List.getElem_map, List.getElem_range]
    by_cases q : k < 4
    · rw [(hkn k (by omega) (by omega)).2.2.2]; simp [q]
    · rw [hplX _ (hout k q)]; simp [q]
  · apply List.ext_getElem (by simp [lvL, b4])
    intro k h1 h2
    simp only [lvL, b4, List.getElem_map, List.getElem_range]
    by_cases q : k < 4
    · simp [Rg.lives, (hkn k (by omega) (by omega)).1, q]
    · simp [Rg.lives, hkN _ (hout k q), q]
  · apply List.ext_getElem (by simp [idL, i4])
    intro k h1 h2
    simp only [idL, i4, List.getElem_map, List.getElem_range]
    by_cases q : k < 4
    · rw [(hkn k (by omega) (by omega)).2.2.1, if_pos q]; simp
    · rw [if_neg q]; simp [Rg.idOf, hplX _ (hout k q)]
  · by_cases q : k < 4
    · refine ⟨q, ?_⟩
      rw [(hkn k (by omega) (by omega)).1] at hx
      simp only [Option.some.injEq] at hx
      rw [← hx]; rfl
    · rw [hkN _ (hout k q)] at hx; cases hx
theorem NwA.toV {B T : Nat} {w0 w : World} {b gu cu gl cl gi ci gp cp : Nat} {P : List Pr3} {l S : List Int} {c0 c1 c2 c3 : Int} (hc : Circ l (circleOf l S) c0 c1 c2 c3) (hp : S.Pairwise (· < ·)) (hm : ∀ x, x ∈ S ↔ x ∈ l) (hu : ∀ k : Nat, Plc (l.getD k 0)) (hP : P.length = 32) (hPo : ∀ x ∈ P, x.ok)
    (h : NwA B w0 w b (.slice (some ⟨gu, 0, none⟩) 32 cu) (.slice (some ⟨gl, 0, none⟩) 32 cl) (.slice (some ⟨gi, 0, none⟩) 32 ci) (.slice (some ⟨gp, 0, none⟩) 32 cp) (b4 32) (b4 32) (i4 l 4) P) (hd : LsD T w l P 4) :
    RfV w (newTo l (circleOf l S) 4) (.agg #[.slice (some ⟨gu, 0, none⟩) 32 cu, .slice (some ⟨gl, 0, none⟩) 32 cl, .slice (some ⟨gi, 0, none⟩) 32 ci, .slice (some ⟨gp, 0, none⟩) 32 cp]) := by
  obtain ⟨e1, e2, e3, e4⟩ := new_rows hc hp hm hu
  have hkn := fun n h0 h4 => new_kn hc (hc.rise hp hm) hu n h0 h4
  have r0 := h.u; have r1 := h.l; have r2 := h.i; have r3 := h.p
  rw [b4_len] at r0 r1
  rw [i4_len] at r2
  rw [hP] at r3
  have hio : ∀ x ∈ i4 l 4, u64 x := by
    intro x hx
    obtain ⟨k, _, rfl⟩ := List.mem_map.1 hx
    split
    · have := hu k; unfold Plc at this; unfold u64; omega
    · unfold u64; omega
  refine ⟨_, _, _, _, _, _, _, _, P, rfl, by rw [e1]; exact own_inB r0, by rw [e2]; exact own_inB r1, by rw [e3]; exact own_inU r2 hio, own_inP r3 hPo, fun k hk x hx => ?_⟩
  · obtain ⟨q, rfl⟩ := e4 k hk x hx
    obtain ⟨g, c, h1, h2, h3, h4, h5⟩ := hd k q
    rw [h1]
    have hr := itn_rng (fun n h0 h4 => (hkn n h0 h4).2.1) (n := (k : Int)) (by omega) (by omega) 3
    have hk := hu k
    exact ⟨rfl, rfl, by unfold Plc at hk; unfold u64; omega, by show i64 (itn l k 3); unfold i64; omega, h2, h4, h5, fun e => by cases e⟩
end Go.Proofs.YtmajlldfiiokoaaGreatDoor
