/- Filters with a predicate less, filters turned round: plain lists; an append in a region that draws. -/
import Derived.Test.YtiafamfnbpbfiabDoorValEv
import Derived.Deep.RegionLaw
namespace Go.Proofs.YtiafamfnbpbfiabDoor
open Go.ChangeShapes Go.WideShapes Go.ChangeAt Go.RowKit
set_option linter.unusedVariables false

theorem mem_getP {ps : List Pd} {p : Pd} (h : p ∈ ps) : ∃ i, i < ps.length ∧ ps.getD i pd0 = p := by
  obtain ⟨i, hi, e⟩ := List.getElem_of_mem h
  exact ⟨i, hi, by simp [hi, e]⟩
theorem getD_mem' {ps : List Pd} {i : Nat} (h : i < ps.length) : ps.getD i pd0 ∈ ps := by simp [h]
def Unlike (ps : List Pd) : Prop := ps.Pairwise fun p q => p.name ≠ q.name
theorem filter_iff {az : List At} {ps : List Pd} : FilterOk az ps ↔ 1 ≤ ps.length ∧ ps.length ≤ 4 ∧ Unlike ps ∧ ∀ p ∈ ps, ∃ k, FindAt az p.name k ∧ PredOk (az.getD k at0) p := by
  constructor
  · rintro ⟨h1, h2, h3⟩
    refine ⟨h1, h2, ?_, fun p hp => ?_⟩
    · rw [Unlike, List.pairwise_iff_getElem]
      intro i j hi hj hij
      have := (h3 j hj).1 i hij
      simpa [hi, hj] using this
    · obtain ⟨i, hi, rfl⟩ := mem_getP hp
      exact (h3 i hi).2
  · rintro ⟨h1, h2, h3, h4⟩
    refine ⟨h1, h2, fun i hi => ⟨fun j hj => ?_, h4 _ (getD_mem' hi)⟩⟩
    rw [Unlike, List.pairwise_iff_getElem] at h3
    have := h3 j i (by omega) hi hj
    have hj' : j < ps.length := by omega
    simpa [hi, hj'] using this
theorem match_iff {az : List At} {ps : List Pd} {vs : List Vl} {n : Nat} : MatchOk az ps vs n ↔ FilterOk az ps ∧ EventOk az vs n ∧ ∀ p ∈ ps, ∃ k, FindAt az p.name k ∧ Takes p (vs.getD k vl0) := by
  constructor
  · rintro ⟨h1, h2, h3⟩
    refine ⟨h1, h2, fun p hp => ?_⟩
    obtain ⟨i, hi, rfl⟩ := mem_getP hp
    exact h3 i hi
  · rintro ⟨h1, h2, h3⟩
    exact ⟨h1, h2, fun i hi => h3 _ (getD_mem' hi)⟩
theorem less_ok {az : List At} {ps : List Pd} {i : Nat} (h : FilterOk az ps) (h2 : 2 ≤ ps.length) (hi : i < ps.length) : FilterOk az (ps.take i ++ ps.drop (i + 1)) := by
  rw [filter_iff] at h ⊢
  rw [← List.eraseIdx_eq_take_drop_succ]
  have hs : (ps.eraseIdx i).Sublist ps := List.eraseIdx_sublist ..
  have hl : (ps.eraseIdx i).length = ps.length - 1 := by rw [List.length_eraseIdx, if_pos hi]
  exact ⟨by omega, by omega, h.2.2.1.sublist hs, fun p hp => h.2.2.2 p (hs.subset hp)⟩
theorem less_match {az : List At} {ps : List Pd} {vs : List Vl} {n i : Nat} (h : MatchOk az ps vs n) (h2 : 2 ≤ ps.length) (hi : i < ps.length) : MatchOk az (ps.take i ++ ps.drop (i + 1)) vs n := by
  have h' := match_iff.mp h
  refine match_iff.mpr ⟨less_ok h'.1 h2 hi, h'.2.1, fun p hp => h'.2.2 p ?_⟩
  rw [← List.eraseIdx_eq_take_drop_succ] at hp
  exact (List.eraseIdx_sublist ..).subset hp
theorem rev_ok {az : List At} {ps : List Pd} : FilterOk az ps.reverse ↔ FilterOk az ps := by
  rw [filter_iff, filter_iff]
  have e : Unlike ps.reverse ↔ Unlike ps := by
    rw [Unlike, Unlike, List.pairwise_reverse]
    constructor <;> intro h <;> exact h.imp fun hh => hh.symm
  simp [e]
theorem rev_match {az : List At} {ps : List Pd} {vs : List Vl} {n : Nat} : MatchOk az ps.reverse vs n ↔ MatchOk az ps vs n := by
  rw [match_iff, match_iff, rev_ok]; simp

section
variable {P : Program} (w : World)
/-- An append to an own row (five cells an element) at a step of a region that draws its order. -/
theorem step_own_src5 {ops : Array Oper} {o : Oper} {a : Act} {K : Act → World → Prop} {Q : Exit → Act → World → Prop} {E : Prop} (hgd : o.guard = none) (s x : Operand) (t tx : TypeId)
    (ho : o.op = .call { callee := .builtin .append, args := #[s, x], argTypes := #[t, tx] })
    (base : Nat) (e : TypeId) (i : TypeInfo) (z : Value) (bytes : Nat) (ht : P.underlying t = some (.slice e)) (hi : P.info? e = some i) (hz : i.zero = some z)
    (hsize : i.size = 5) (hby : i.bytes = bytes) (hzs : z.cells.size = 5)
    (v : Value) (n : Nat) (xs : List Value) (hv : a.eval s = v) (hown : w.ownsRow base e 5 v n xs) (xv : Value) (m : Nat) (news : List Value) (hx : a.eval x = xv) (hs : Src P 5 tx xv m news w)
    (h63 : n + m ≤ maxLen) (hbytes : (n + m) * bytes ≤ 140737488355328) (hbase : base ≤ w.heap.size)
    (hK : ∀ v' w', Appended5 base e w w' v v' (n + m) (xs ++ news) → K (a.put o.dst v') w') :
    if Region.wanted o (yielded ops a.tmps) = true then Oper.wp P o a w K Q else E := by
  have hw : Region.wanted o (yielded ops a.tmps) = true := by simp [Region.wanted, hgd]
  rw [if_pos hw]
  obtain ⟨v', w', hrun, r'⟩ := own_append5 (P := P) w base t tx o.type e i z bytes ht hi hz hsize hby hzs v n xs hown xv m news hs h63 hbytes hbase
  unfold Oper.wp execOp
  simp only [ho, resolve, invoke, builtin, Sem.run_bind, Sem.run_pure, Result.andThen_ok, List.map_toArray, List.map_cons, List.map_nil, hv, hx, hrun]
  exact hK v' w' r'
end
/-- A part of a filter, as a source. -/
theorem src_part {w : World} {g n c : Nat} {ps : List Pd} (h : PdIn w (.slice (some ⟨g, 0, none⟩) n c) ps) (i m c' : Nat) (hi : i + m ≤ ps.length) (ad : Addr) (had : 0 < m → ad = ⟨g, i * 5, none⟩) :
    Src Tryd.prog 5 25 (.slice (some ad) m c') m (((ps.drop i).take m).flatMap Pd.cells) w := by
  have hl : ((ps.drop i).take m).length = m := by simp; omega
  refine Src.ofSlice _ Tryd.underlying25 _ m c' _ (by rw [flat_len Pd.cells 5 Pd.cells_len, hl]) (fun j u hu => ?_) (fun u hu => ?_)
  · have hj : j < m * 5 := by
      have := (List.getElem?_eq_some_iff.mp hu).1
      rw [flat_len Pd.cells 5 Pd.cells_len, hl] at this; exact this
    have hm : 0 < m := by omega
    rw [had hm]
    have e := flat_get Pd.cells 5 Pd.cells_len pd0 ((ps.drop i).take m) (j / 5) (j % 5) (by omega) (by omega)
    rw [show j / 5 * 5 + j % 5 = j by omega, hu] at e
    have eg : ((ps.drop i).take m).getD (j / 5) pd0 = ps.getD (i + j / 5) pd0 := by
      have h5 : j / 5 < m := by omega
      simp [h5]
    rw [eg] at e
    obtain ⟨g', hg', _, _, c0, c1, c2, c3, c4⟩ := h.row (i + j / 5) (by omega)
    simp at hg'
    subst hg'
    have ea : (⟨g, i * 5, none⟩ : Addr).add j = ⟨g, (i + j / 5) * 5 + j % 5, none⟩ := by
      unfold Addr.add; split
      · simp_all
      · simp; omega
    rw [ea]
    have h5 : j % 5 < 5 := by omega
    generalize j % 5 = r at e h5
    match r, h5 with
    | 0, _ => rw [Nat.add_zero, c0]; simpa [Pd.cells] using e.symm
    | 1, _ => rw [c1]; simpa [Pd.cells] using e.symm
    | 2, _ => rw [c2]; simpa [Pd.cells] using e.symm
    | 3, _ => rw [c3]; simpa [Pd.cells] using e.symm
    | 4, _ => rw [c4]; simpa [Pd.cells] using e.symm
  · obtain ⟨p, _, hp⟩ := List.mem_flatMap.mp hu
    simp [Pd.cells] at hp
    rcases hp with rfl | rfl | rfl | rfl | rfl <;> rfl
theorem rev_snoc (ps : List Pd) (j : Nat) (hj : j < ps.length) : (ps.drop j).reverse.flatMap Pd.cells = (ps.drop (j + 1)).reverse.flatMap Pd.cells ++ (ps.getD j pd0).cells := by
  rw [List.drop_eq_getElem_cons hj, List.reverse_cons, List.flatMap_append]
  simp [hj]
end Go.Proofs.YtiafamfnbpbfiabDoor
