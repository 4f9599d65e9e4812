/- slices.Sort, slices.Compact of a row of ints of one's own. -/
import Derived.Test.YtkkkldglceiiiaaGreatShelf
import Derived.Test.YtkkkldglceiiiaaGreatPrInts
import Derived.Sort.OwnSortedInts
namespace Go.Proofs.YtkkkldglceiiiaaGreat
open Go.ChangeShapes Go.WideShapes Go.ChangeAt Go.RowKit Go.Deep
set_option linter.unusedVariables false

theorem tr_compact_len {zs : List Int} : (Lib.compact zs).length ≤ zs.length := by
  unfold Lib.compact Lib.compactUpTo
  rw [List.length_map]
  exact Nat.le_trans (List.length_filter_le _ _) (by simp)
theorem tr_compact_mem {zs : List Int} : ∀ x ∈ Lib.compact zs, x ∈ zs := fun x hx => by
  unfold Lib.compact Lib.compactUpTo at hx
  obtain ⟨j, hj, rfl⟩ := List.mem_map.1 hx
  have hl : j < zs.length := by have := (List.mem_filter.1 hj).1; simpa using this
  have e : zs.toArray[j]! = zs[j] := by simp [hl]
  rw [e]
  exact List.getElem_mem _
theorem tr_below_cells {B b : Nat} (hb : B ≤ b) : ∀ (vs : List Value) (o : Nat) (w : World), Below B w (w.setCells b o vs)
  | [], _, w => Below.refl _ _
  | v :: r, o, w => by rw [World.setCells]; exact ((Below.refl B w).setCell (p := ⟨b, o, none⟩) hb v).trans (tr_below_cells hb r (o + 1) _)
theorem tr_size_cells {b : Nat} : ∀ (vs : List Value) (o : Nat) (w : World), (w.setCells b o vs).heap.size = w.heap.size
  | [], _, w => rfl
  | v :: r, o, w => by rw [World.setCells, tr_size_cells r (o + 1)]; simp [World.setCell]
theorem tr_compact_snoc (l : List Int) (x : Int) : Lib.compact (l ++ [x]) = if l.getLast? = some x then Lib.compact l else Lib.compact l ++ [x] := by
  have hk : ∀ j, j < l.length → Lib.keeps (l ++ [x]).toArray j = Lib.keeps l.toArray j := fun j hj => by
    have e1 : (l ++ [x]).toArray[j]! = l.toArray[j]! := by simp [hj, List.getElem?_append_left hj]
    have e2 : (l ++ [x]).toArray[j - 1]! = l.toArray[j - 1]! := by
      have : j - 1 < l.length := by omega
      simp [this, List.getElem?_append_left this]
    unfold Lib.keeps
    rw [e1, e2]
  have hmap : ∀ j ∈ (List.range l.length).filter (Lib.keeps l.toArray), (l ++ [x]).toArray[j]! = l.toArray[j]! := fun j hj => by
    have hj' : j < l.length := by have := (List.mem_filter.1 hj).1; simpa using this
    simp [hj', List.getElem?_append_left hj']
  have hf : (List.range l.length).filter (Lib.keeps (l ++ [x]).toArray) = (List.range l.length).filter (Lib.keeps l.toArray) := List.filter_congr (fun j hj => hk j (by simpa using hj))
  have hx : (l ++ [x]).toArray[l.length]! = x := by simp
  unfold Lib.compact Lib.compactUpTo
  rw [List.length_append, List.length_singleton, List.range_succ, List.filter_append, hf, List.map_append, List.map_congr_left hmap]
  by_cases h0 : l.length = 0
  · have : l = [] := List.eq_nil_of_length_eq_zero h0
    subst this
    simp [Lib.keeps]
  · have hp : 0 < l.length := by omega
    have hlast : (l ++ [x]).toArray[l.length - 1]! = l.toArray[l.length - 1]! := by
      have : l.length - 1 < l.length := by omega
      simp [this, List.getElem?_append_left this]
    have hgl : l.getLast? = some l.toArray[l.length - 1]! := by
      have : l.length - 1 < l.length := by omega
      rw [List.getLast?_eq_getElem?]
      simp [this]
    rw [hgl]
    by_cases q : l.toArray[l.length - 1]! = x
    · have hkk : Lib.keeps (l ++ [x]).toArray l.length = false := Lib.keeps_neg hp (by rw [hx, hlast, q])
      rw [if_pos (by rw [q])]
      simp [hkk]
    · have hkk : Lib.keeps (l ++ [x]).toArray l.length = true := Lib.keeps_pos (by rw [hx, hlast]; exact Ne.symm q)
      rw [if_neg (fun e => q (Option.some.inj e))]
      simp [hkk]
/-- Of a list that doesn't fall: rising, each once. -/
theorem compact_rise : ∀ (n : Nat) (l : List Int), l.length = n → l.Pairwise (· ≤ ·) → (Lib.compact l).Pairwise (· < ·) ∧ (∀ x, x ∈ Lib.compact l ↔ x ∈ l) := by
  intro n
  induction n with
  | zero => intro l hl _; have : l = [] := List.eq_nil_of_length_eq_zero hl; subst this; exact ⟨List.Pairwise.nil, fun x => by simp [Lib.compact, Lib.compactUpTo]⟩
  | succ n ih =>
    intro l hl hp
    rcases List.eq_nil_or_concat l with h0 | ⟨m, x, h0⟩
    · subst h0; simp at hl
    · have h1 : l = m ++ [x] := by rw [h0]; simp
      subst h1
      have hm : m.length = n := by simpa using hl
      obtain ⟨p1, _, p3⟩ := List.pairwise_append.1 hp
      obtain ⟨i1, i2⟩ := ih m hm p1
      rw [tr_compact_snoc]
      by_cases q : m.getLast? = some x
      · rw [if_pos q]
        have hxm : x ∈ m := List.mem_of_getLast? q
        refine ⟨i1, fun y => ?_⟩
        rw [i2, List.mem_append, List.mem_singleton]
        exact ⟨.inl, fun z => z.elim id (fun e => by rw [e]; exact hxm)⟩
      · rw [if_neg q]
        refine ⟨List.pairwise_append.2 ⟨i1, by simp, fun a ha b hb => ?_⟩, fun y => by simp only [List.mem_append, List.mem_singleton, i2]⟩
        simp at hb
        subst hb
        have ha' := (i2 a).1 ha
        have hle := p3 a ha' b (by simp)
        rcases Int.lt_or_le a b with h | h
        · exact h
        · exfalso
          have hab : a = b := by omega
          subst hab
          apply q
          -- a is the last one: all behind it lie between a and a
          obtain ⟨s, t, rfl⟩ := List.append_of_mem ha'
          rcases List.eq_nil_or_concat t with ht | ⟨u, y, ht⟩
          · subst ht; simp
          · have ht' : t = u ++ [y] := by rw [ht]; simp
            subst ht'
            have h1 := (List.pairwise_append.1 p1).2.1
            have h2 := (List.pairwise_cons.1 h1).1 y (by simp)
            have h3 := p3 y (by simp) a (by simp)
            have : y = a := by omega
            subst this
            rw [show s ++ y :: (u ++ [y]) = (s ++ y :: u) ++ [y] by simp, List.getLast?_concat]
theorem le_sorted (l : List Int) : (l.mergeSort fun x y => decide (x ≤ y)).Pairwise (· ≤ ·) := by
  have := List.pairwise_mergeSort (le := fun x y : Int => decide (x ≤ y)) (fun a b c h1 h2 => by simp at *; omega) (fun a b => by simp; omega) l
  exact this.imp (fun h => by simpa using h)

/-- slices.Sort of a row of one's own. -/
theorem sort_own (B : Nat) (wr : World) (a : Option Addr) (n c : Nat) (l : List Int) (h : wr.ownsRow B 3 1 (.slice a n c) n (l.map cellI)) (hn : n ≤ 1000000) :
    Calls Tryz.prog 37 #[.slice a n c] wr fun e w' => e = .returned (.tuple #[]) ∧ ∃ l' : List Int, l'.Perm l ∧ l'.Pairwise (· ≤ ·) ∧ w'.ownsRow B 3 1 (.slice a n c) n (l'.map cellI) ∧ wr.grownBy w' (Value.ownBlock (.slice a n c)) := by
  have hl : l.length = n := by have := h.1; simpa using this
  rcases h.2 with ⟨hv, h0⟩ | ⟨g, cap, cur, hv, hB, hg, hnc, hcm, hcs, ht⟩
  · have hL : l = [] := List.eq_nil_of_length_eq_zero (by omega)
    subst hL
    subst h0
    refine (Tryz.slices_Sort_int_none a c wr).mono ?_
    rintro e w' ⟨rfl, hw'⟩
    subst w'
    exact ⟨rfl, [], List.Perm.refl _, List.Pairwise.nil, h, ⟨rfl, rfl, rfl, Nat.le_refl _, fun _ _ _ => rfl⟩⟩
  · simp only [Value.slice.injEq] at hv
    obtain ⟨rfl, _, rfl⟩ := hv
    subst hl
    have ht' : cur.toList.take l.length = l.map (Value.int .i64) := by rw [Nat.mul_one] at ht; exact ht
    have hh := holds_of_blockI (ss := l) hg ht'
    refine (Tryz.slices_Sort_int g 0 c l wr hh (lt_of_block hg) (by omega)).mono ?_
    rintro e w' ⟨rfl, q, os, rfl⟩
    have hpm : (l.mergeSort fun x y => decide (x ≤ y)).Perm l := List.mergeSort_perm l _
    exact ⟨rfl, l.mergeSort fun x y => decide (x ≤ y), hpm, le_sorted l, ownsRow_sortedI hpm.length_eq hB hg hnc hcm hcs, grownBy_sortedI _⟩
/-- slices.Compact of a row of one's own. -/
theorem compact_own (B : Nat) (wr : World) (a : Option Addr) (n c : Nat) (l : List Int) (h : wr.ownsRow B 3 1 (.slice a n c) n (l.map cellI)) (hok : ∀ x ∈ l, i64 x) (hn : n ≤ 1000000) :
    Calls Tryz.prog 38 #[.slice a n c] wr fun e w' => ∃ m, e = .returned (.slice a m c) ∧ InIn w' a m (Lib.compact l) ∧ (a = none → m = 0) ∧ m ≤ c ∧ c ≤ 9223372036854775807 ∧ Below B wr w' := by
  have hl : l.length = n := by have := h.1; simpa using this
  have hcp := own_caps h
  rcases h.2 with ⟨hv, h0⟩ | ⟨g, cap, cur, hv, hB, hg, hnc, _, hcs, _⟩
  · have hL : l = [] := List.eq_nil_of_length_eq_zero (by omega)
    subst hL
    subst h0
    refine (Tryz.slices_Compact_int_empty a c wr).mono ?_
    rintro e w' ⟨rfl, hw'⟩
    subst w'
    exact ⟨0, rfl, ⟨rfl, by omega, .inl rfl⟩, fun _ => rfl, by omega, hcp.2, Below.refl _ _⟩
  · have hcell := h.cells (g := g) (by rw [hv]; rfl)
    simp only [Value.slice.injEq] at hv
    obtain ⟨rfl, _, rfl⟩ := hv
    have hgl := lt_of_block hg
    have hc : ∀ i, i < l.length → wr.cell? ⟨g, 0 + i, none⟩ = some (.int .i64 (l.getD i 0)) := fun i hi => by
      have e := hcell i (cellI (l.getD i 0)) (by simp [hi])
      rw [Addr.add_lit] at e
      exact e
    have hf : ∀ j, j < n → wr.frozen? ⟨g, 0 + j, none⟩ = false := fun j _ => by simp [World.frozen?, hg]
    refine (Tryz.slices_Compact_int_cells g 0 n c l wr (by omega) (by omega) hnc hc hf).mono ?_
    rw [List.take_of_length_le (by omega)]
    rintro e w' ⟨rfl, q, rfl⟩
    have hcl := tr_compact_len (zs := l)
    refine ⟨(Lib.compact l).length, rfl, ⟨rfl, by omega, ?_⟩, (fun e => by cases e), by omega, hcp.2, ?_⟩
    · refine .inr ⟨g, 0, rfl, ?_, fun j hj => ⟨?_, fun i hi => ?_⟩⟩
      · rw [tr_size_cells]; exact hgl
      · rw [List.getD_eq_getElem?_getD, List.getElem?_eq_getElem hj]
        exact hok _ (tr_compact_mem _ (List.getElem_mem _))
      · obtain rfl : i = 0 := by omega
        have hin := World.cell?_setCells_in g ((Lib.compact l ++ List.replicate (n - (Lib.compact l).length) 0).map (Value.int .i64)) 0 (wr.drewN q)
          (fun k hk => by
            have hk' : k < l.length := by simp at hk; omega
            have e := hc k hk'
            have e' : (wr.drewN q).cell? ⟨g, 0 + k, none⟩ = wr.cell? ⟨g, 0 + k, none⟩ := rfl
            rw [e', e]; rfl) j (by simp; omega)
        have ea : (⟨g, 0 + j * 1 + 0, none⟩ : Addr) = ⟨g, 0 + j, none⟩ := by simp
        rw [ea, hin]
        simp [encI, hj]
    · have hb : Below B wr (wr.drewN q) := ⟨rfl, rfl, rfl, Nat.le_refl _, fun _ _ => rfl⟩
      exact hb.trans (tr_below_cells hB _ _ _)
end Go.Proofs.YtkkkldglceiiiaaGreat
