/- wigwagtop.WigwagAsked, walked. -/
import Derived.Test.YtcckoncgfmbhiabGreatDoorFilSch
import Derived.Test.YtcckoncgfmbhiabGreatDoorValEv
import Derived.Test.YtcckoncgfmbhiabGreatDoorValMatch
namespace Go.Proofs.YtcckoncgfmbhiabGreatDoor
open Go.ChangeShapes Go.WideShapes Go.ChangeAt Go.RowKit
set_option linter.unusedVariables false

theorem num03 (r : List UInt8) : rNumber (32 :: 48 :: 51 :: 46 :: r) = .fail false (48 :: 51 :: 46 :: r) := by
  have e1 : (32 :: 48 :: 51 :: 46 :: r).dropWhile isBlank = 48 :: 51 :: 46 :: r := rfl
  have e2 : nSign (48 :: 51 :: 46 :: r) = [] := rfl
  have e3 : nDigits (48 :: 51 :: 46 :: r) = [48, 51] := rfl
  have e5 : Lib.atoiAll [48, 51] = .ok 3 := by decide
  have e6 : Lib.itoa 3 = [51] := by unfold Lib.itoa; rw [if_neg (by decide)]; show Lib.decDigits 3 = _; rw [Lib.decDigits, dif_pos (by decide)]; rfl
  unfold rNumber
  rw [e1]; simp only [e2, e3, List.nil_append, e5, e6]
  rw [if_neg (by simp)]
theorem pars_03 : ∃ b r, pars [112, 114, 105, 99, 101, 32, 105, 110, 32, 48, 51, 46, 46, 57] = .fail b r := by
  have e1 : rWord [112, 114, 105, 99, 101, 32, 105, 110, 32, 48, 51, 46, 46, 57] = .ok [112, 114, 105, 99, 101] [32, 105, 110, 32, 48, 51, 46, 46, 57] := rfl
  have e2 : rBegin [32, 105, 110, 32, 48, 51, 46, 46, 57] = .ok () [105, 110, 32, 48, 51, 46, 46, 57] := rfl
  have e3 : rThis [105, 110] [105, 110, 32, 48, 51, 46, 46, 57] = .ok () [32, 48, 51, 46, 46, 57] := rfl
  have e4 : rNums [105, 110, 32, 48, 51, 46, 46, 57] = .fail false [48, 51, 46, 46, 57] := by
    unfold rNums; rw [e3]; simp only; rw [num03]
  have e5 : rPred [112, 114, 105, 99, 101, 32, 105, 110, 32, 48, 51, 46, 46, 57] = .fail false [48, 51, 46, 46, 57] := by
    unfold rPred; rw [e1]; simp only; rw [e2]; simp only
    unfold rAsk; simp only
    rw [if_neg (by decide), if_neg (by decide), e4]
  refine ⟨false, [48, 51, 46, 46, 57], ?_⟩
  unfold pars
  show rFil (14 + 1) [] _ = _
  rw [rFil, e5]
theorem own_shapeA {w : World} {B k n : Nat} {e : TypeId} {v : Value} {xs : List Value} (h : w.ownsRow B e k v n xs) : ∃ a c, v = .slice a n c := by
  rcases h.2 with ⟨rfl, h1⟩ | ⟨g, cap, cur, hv, _⟩
  · exact ⟨none, 0, by rw [h1]⟩
  · exact ⟨_, _, hv⟩
theorem az_cutA (t : List At) : ∀ i, i < ((t.take 6).map cutA).length → (((t.take 6).map cutA).getD i at0).name.size ≤ 20 := fun i hi => by
  have hi' : i < 6 ∧ i < t.length := by simp at hi; omega
  have e : ((t.take 6).map cutA).getD i at0 = cutA t[i] := by simp [hi'.1, hi'.2]
  rw [e]
  exact cut_size t[i].name 20
theorem az_cutP (t : List Pd) : ∀ i, i < ((t.take 6).map cutP).length → (((t.take 6).map cutP).getD i pd0).str.size ≤ 50 := fun i hi => by
  have hi' : i < 6 ∧ i < t.length := by simp at hi; omega
  have e : ((t.take 6).map cutP).getD i pd0 = cutP t[i] := by simp [hi'.1, hi'.2]
  rw [e]
  exact cut_size t[i].str 50
theorem az_cutV (t : List Vl) : ∀ i, i < ((t.take 6).map cutV).length → (((t.take 6).map cutV).getD i vl0).str.size ≤ 50 := fun i hi => by
  have hi' : i < 6 ∧ i < t.length := by simp at hi; omega
  have e : ((t.take 6).map cutV).getD i vl0 = cutV t[i] := by simp [hi'.1, hi'.2]
  rw [e]
  exact cut_size t[i].str 50
/-- One predicate in a slice of its own. -/
theorem plin_oneA (w : World) (p : Pl) (x : Nat) (hx : x = w.heap.size) : PlIn (w.alloc (.cells #[.string (ba p.name), .int .i64 p.op, .int .i64 p.lo, .int .i64 p.hi, .string (ba p.str)] 49)) (.slice (some ⟨x, 0, none⟩) 1 1) [p] := by
  subst hx
  obtain ⟨g0, g1, g2, g3, g4, _⟩ := five (heap_alloc_new w (.cells #[.string (ba p.name), .int .i64 p.op, .int .i64 p.lo, .int .i64 p.hi, .string (ba p.str)] 49))
  refine ⟨_, 1, rfl, fun _ => ⟨w.heap.size, rfl, by simp, Nat.le_refl _, fun i hi j hj => ?_⟩⟩
  obtain rfl : i = 0 := by simp at hi; omega
  rcases (show j = 0 ∨ j = 1 ∨ j = 2 ∨ j = 3 ∨ j = 4 by omega) with rfl | rfl | rfl | rfl | rfl
  · exact g0
  · exact g1
  · exact g2
  · exact g3
  · exact g4
theorem pP_in : ∀ (ps : List Pl) (q : Pl), q ∈ ps → (pF [q]).length ≤ (pF ps).length
  | [], q, h => by simp at h
  | [p], q, h => by rw [List.mem_singleton.1 h]; exact Nat.le_refl _
  | p :: p' :: ps, q, h => by
    have e : pF (p :: p' :: ps) = pP p ++ 32 :: 97 :: 110 :: 100 :: 32 :: pF (p' :: ps) := rfl
    rcases List.mem_cons.1 h with rfl | h
    · rw [e]; show (pP q).length ≤ _; simp
    · have := pP_in (p' :: ps) q h
      rw [e]; simp; omega
/-- A filter of one of a filter's predicates. -/
theorem one_ok {az : List At} {ps : List Pd} (h : FilterOk az ps) (i : Nat) (hi : i < ps.length) : FilterOk az [ps.getD i pd0] := by
  refine ⟨by simp, by simp, fun j hj => ?_⟩
  obtain rfl : j = 0 := by simp at hj; omega
  exact ⟨fun j hj => absurd hj (Nat.not_lt_zero _), (h.2.2 i hi).2⟩
def AllTo (az : List At) (ps : List Pd) (vs : List Vl) (n i : Nat) : Prop := EventOk az vs n ∧ ∀ j, j < i → MatchOk az [ps.getD j pd0] vs n
theorem all_all {az : List At} {ps : List Pd} {vs : List Vl} {n : Nat} (h : FilterOk az ps) : AllTo az ps vs n ps.length ↔ MatchOk az ps vs n := by
  constructor
  · rintro ⟨h1, h2⟩
    exact ⟨h, h1, fun i hi => (h2 i hi).2.2 0 (by simp)⟩
  · rintro ⟨_, h1, h2⟩
    refine ⟨h1, fun j hj => ⟨one_ok h j hj, h1, fun i hi => ?_⟩⟩
    obtain rfl : i = 0 := by simp at hi; omega
    exact h2 j hj
theorem all_step {az : List At} {ps : List Pd} {vs : List Vl} {n i : Nat} : AllTo az ps vs n (i + 1) ↔ AllTo az ps vs n i ∧ MatchOk az [ps.getD i pd0] vs n := by
  constructor
  · rintro ⟨h1, h2⟩
    exact ⟨⟨h1, fun j hj => h2 j (by omega)⟩, h2 i (by omega)⟩
  · rintro ⟨⟨h1, h2⟩, h3⟩
    refine ⟨h1, fun j hj => ?_⟩
    by_cases e : j = i
    · subst e; exact h3
    · exact h2 j (by omega)
/-- The schema, the filter and the event lie where they lay, the library's variables too. -/
structure Ma (w W : World) (sl gl ul : Value) (L : List At) (G : List Pd) (V : List Vl) (eb : Nat) (pay : ByteArray) : Prop where
  at_ : AtIn W sl L
  pd : PdIn W gl G
  vl : VlIn W ul V
  c0 : W.cell? ⟨eb, 0, none⟩ = some ul
  c1 : W.cell? ⟨eb, 1, none⟩ = some (.string pay)
  env : Env W
  bel : Below w.heap.size w W
theorem Ma.below {w W W' : World} {sl gl ul : Value} {L : List At} {G : List Pd} {V : List Vl} {eb : Nat} {pay : ByteArray} (h : Ma w W sl gl ul L G V eb pay) (hb : Below W.heap.size W W') : Ma w W' sl gl ul L G V eb pay :=
  ⟨h.at_.below hb, h.pd.below hb, h.vl.below hb, cell_grown h.c0 hb, cell_grown h.c1 hb, h.env.below hb h.env.lt, h.bel.trans (hb.mono h.bel.size)⟩
theorem says_is {e : Ending} {P : Prop} {b : Bool} (h : Says e P) (hb : b = true ↔ P) : e = .returned (.bool b) := by
  obtain ⟨c, rfl, hc⟩ := h
  have : c = b := Bool.eq_iff_iff.2 (hc.trans hb.symm)
  rw [this]
end Go.Proofs.YtcckoncgfmbhiabGreatDoor
