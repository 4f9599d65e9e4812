/- slices.Insert of one element into a row of one's own (strings): at the end, in the middle with room, in the middle without. -/
import Derived.Test.YtffdknjocmfmfaaInsRow
import Derived.Test.YtffdknjocmfmfaaRows
import Derived.Test.YtffdknjocmfmfaaAid
import Derived.Test.YtffdknjocmfmfaaOwnSrc
import Derived.Shelf.Spec.SlicesInsert
import Derived.Deep.AppendLies
import Derived.Deep.RegionLaw
import Derived.BigRegion
import Derived.ProofKit
import Derived.OpenShut
import Derived.WalkLawsBesides
import Derived.Outline
import Derived.Below
namespace Go.Proofs.Ytffdknjocmfmfaa
open Go.ChangeShapes Go.WideShapes Go.ChangeAt Go.RowKit
set_option linter.unusedVariables false

theorem Try.infoStr : (Try.prog.info? 9).map (fun i => (i.zero, i.size, i.bytes)) = some (some (.string ⟨#[]⟩), 1, 16) := by kernel_rfl
theorem infoStr_parts : ∃ i, Try.prog.info? 9 = some i ∧ i.zero = some (.string ⟨#[]⟩) ∧ i.size = 1 ∧ i.bytes = 16 := by
  have h := Try.infoStr
  cases hh : Try.prog.info? 9 with
  | none => rw [hh] at h; simp at h
  | some i => rw [hh] at h; simp at h; exact ⟨i, rfl, h.1, h.2.1, h.2.2⟩
theorem sizeStr (w : World) : (sizeOf 9).run Try.prog w = .ok 1 w := by kernel_rfl
theorem srcStr (w : World) (q : List Value) (vb : Nat) (hq : w.heap[vb]? = some (.cells q.toArray 9 (0, 0))) (hql : q.length = 1) (h1 : ∀ v ∈ q, v.oneCell' = true) : Src Try.prog 1 30 (.slice (some ⟨vb, 0, none⟩) 1 1) 1 q w :=
  Src.ofSlice _ Try.underlying30 _ 1 1 _ (by omega) (fun j u hu => by
    have := World.news_of_block (cs := q.toArray) (t := 9) (fr := (0, 0)) hq j u (by simpa using hu)
    exact this) h1

set_option maxRecDepth 100000 in
set_option maxHeartbeats 2000000 in
/-- At the end. -/
theorem insStr_end (B : Nat) (v : Value) (n : Nat) (xs q : List Value) (vb : Nat) (w : World) (hown : w.ownsRow B 9 1 v n xs) (hn : n ≤ 100000) (hq : w.heap[vb]? = some (.cells q.toArray 9 (0, 0))) (hql : q.length = 1) (h1 : ∀ v ∈ q, v.oneCell' = true) (hB : B ≤ w.heap.size) :
    Calls Try.prog 27 #[v, .int .i64 n, .slice (some ⟨vb, 0, none⟩) 1 1] w fun e w' => ∃ v', e = .returned v' ∧ AppendK 1 B 9 w w' v v' (n + 1) (xs ++ q) := by
  obtain ⟨i0, hi, hz0, hz1, hz2⟩ := infoStr_parts
  have HO : Hid _ := hown
  have hs := srcStr w q vb hq hql h1
  have HS : Hid _ := hs
  have hsh : ∃ a c, v = .slice a n c ∧ n ≤ c := by
    rcases hown.2 with ⟨rfl, rfl⟩ | ⟨g, cap, cur, rfl, _, _, hnc, _⟩
    · exact ⟨none, 0, rfl, Nat.le_refl _⟩
    · exact ⟨_, cap, rfl, hnc⟩
  obtain ⟨a, c, rfl, hnc⟩ := hsh
  clear hown hs
  go_enter Try.func27, Try.ntmps27
  cases a with
  | none =>
    go_wp2_with (at_builtin; refine wpList_own_append _ rfl _ _ 30 30 rfl B 9 i0 _ 16 Try.underlying30 hi hz0 hz1 hz2 rfl _ n xs rfl HO.out _ 1 q rfl HS.out ?c3 ?c4 hB ?_)
    case c3 => unfold maxLen; omega
    case c4 => omega
    intro v' w2 ha
    go_wp2
    go_ret
    exact ⟨v', rfl, ha.row, ha.grown, ha.new, ha.shape⟩
  | some a =>
    obtain ⟨g, o, sp⟩ := a
    by_cases hcn : c = n
    · subst hcn
      go_wp2_with (at_builtin; refine wpList_own_append _ rfl _ _ 30 30 rfl B 9 i0 _ 16 Try.underlying30 hi hz0 hz1 hz2 rfl _ c xs rfl HO.out _ 1 q rfl HS.out ?c3 ?c4 hB ?_)
      case c3 => unfold maxLen; omega
      case c4 => omega
      intro v' w2 ha
      go_wp2
      go_ret
      exact ⟨v', rfl, ha.row, ha.grown, ha.new, ha.shape⟩
    · go_wp2_with (at_builtin; refine wpList_own_append _ rfl _ _ 30 30 rfl B 9 i0 _ 16 Try.underlying30 hi hz0 hz1 hz2 rfl _ n xs rfl HO.out _ 1 q rfl HS.out ?c3 ?c4 hB ?_)
      case c3 => unfold maxLen; omega
      case c4 => omega
      intro v' w2 ha
      go_wp2
      go_ret
      exact ⟨v', rfl, ha.row, ha.grown, ha.new, ha.shape⟩

set_option maxRecDepth 100000 in
set_option maxHeartbeats 4000000 in
/-- In the middle, no room: a new row. -/
theorem insStr_grow (B : Nat) (n c i g : Nat) (cur : Array Value) (xs q : List Value) (vb : Nat) (w : World) (hg : w.heap[g]? = some (.cells cur 9 (0, 0))) (hcs : cur.size = c * 1) (htk : cur.toList.take (n * 1) = xs) (hi' : i < n) (hnc : n ≤ c) (hc : c < n + 1) (hn : n ≤ 100000) (hx1 : ∀ v ∈ xs, v.oneCell' = true)
    (hq : w.heap[vb]? = some (.cells q.toArray 9 (0, 0))) (hql : q.length = 1) (h1 : ∀ v ∈ q, v.oneCell' = true) (hB : B ≤ w.heap.size) :
    Calls Try.prog 27 #[.slice (some ⟨g, 0, none⟩) n c, .int .i64 i, .slice (some ⟨vb, 0, none⟩) 1 1] w fun e w' => ∃ v', e = .returned v' ∧ AppendK 1 B 9 w w' (.slice (some ⟨g, 0, none⟩) n c) v' (n + 1) (xs.take (i * 1) ++ q ++ xs.drop (i * 1)) := by
  obtain ⟨i0, hi, hz0, hz1, hz2⟩ := infoStr_parts
  have hcn : c = n := by omega
  subst hcn
  have hxs : xs = cur.toList := by rw [← htk]; exact List.take_of_length_le (by simp; omega)
  have hxl : xs.length = c * 1 := by rw [hxs]; simpa using hcs
  have hsz : (Try.prog.info? 9).map (·.size) = some 1 := by rw [hi]; simp [hz1]
  have hcell : ∀ j u, xs[j]? = some u → w.cell? ⟨g, j, none⟩ = some u := fun j u hj => by
    rw [hxs] at hj
    simp [World.cell?, hg]
    simpa using hj
  have hold : (Builtin.firstCells i0.size i (.slice (some ⟨g, 0, none⟩) i c)).run Try.prog w.drew = .ok (xs.take (i * 1)).toArray w.drew := by
    rw [hz1]
    exact run_firstCells_some w.drew 1 i ⟨g, 0, none⟩ i c (xs.take (i * 1)) (by rw [List.length_take, hxl]; omega) (fun j u hj => by
      rw [Addr.add_lit, Nat.zero_add]
      rw [List.getElem?_take] at hj
      split at hj
      · exact hcell j u hj
      · cases hj)
  obtain ⟨m, hm⟩ : ∃ m, m = c + 1 - i := ⟨_, rfl⟩
  have hzg := fun ty => zeros_grow (P := Try.prog) w 30 3 ty 9 i0 _ Try.underlying30 Try.underlying3 hi hz0 (by omega) (some ⟨g, 0, none⟩) i c m _ hold (by omega) (by omega) (by omega) (by omega)
  have e1 : i + m = c + 1 := by omega
  rw [e1] at hzg
  obtain ⟨C, hC⟩ : ∃ C, C = grownCap w (c + 1) c 9 := ⟨_, rfl⟩
  have hC1 : c + 1 ≤ C := by rw [hC]; exact grownCap_ge _ _ _ _
  have hC2 : C ≤ maxLen := by rw [hC]; exact grownCap_le_maxLen _ _ _ _ (by unfold maxLen; omega)
  rw [← hC] at hzg
  obtain ⟨Z, hZ⟩ : ∃ Z : List Value, Z = (Builtin.zeroCells (Value.cells (.string ⟨#[]⟩)) m ++ Builtin.zeroCells (Value.cells (.string ⟨#[]⟩)) (C - (c + 1))).toList := ⟨_, rfl⟩
  have hZl : Z.length = (C - i) * 1 := by
    rw [hZ]; simp [size_zeroCells, Value.cells]; omega
  have hrow : (((xs.take (i * 1)).toArray ++ Builtin.zeroCells (Value.cells (.string ⟨#[]⟩)) m) ++ Builtin.zeroCells (Value.cells (.string ⟨#[]⟩)) (C - (c + 1))) = (xs.take (i * 1) ++ Z).toArray := by
    rw [hZ]; apply Array.ext'; simp
  obtain ⟨W1, hW1⟩ : ∃ W1, W1 = w.drew.alloc (.cells (xs.take (i * 1) ++ Z).toArray 9) := ⟨_, rfl⟩
  have hzg' : ∀ ty, (Builtin.append_ #[30, 3] ty #[.slice (some ⟨g, 0, none⟩) i c, .int .i64 m]).run Try.prog w = .ok (.slice (some ⟨w.heap.size, 0, none⟩) (c + 1) C) W1 := fun ty => by
    rw [hW1, ← hrow]; exact hzg ty
  have hglt : g < w.heap.size := (Array.getElem?_eq_some_iff.1 hg).1
  have hvlt : vb < w.heap.size := (Array.getElem?_eq_some_iff.1 hq).1
  have hb1 : W1.heap[w.heap.size]? = some (.cells (xs.take (i * 1) ++ Z).toArray 9 (0, 0)) := by rw [hW1]; exact heap_alloc_new w.drew _
  have hq1 : W1.heap[vb]? = some (.cells q.toArray 9 (0, 0)) := by rw [hW1]; exact (Below.heap_alloc w.drew _ vb hvlt).trans hq
  have hg1 : W1.heap[g]? = some (.cells cur 9 (0, 0)) := by rw [hW1]; exact (Below.heap_alloc w.drew _ g hglt).trans hg
  have hql1 : ∀ j u, q[j]? = some u → W1.cell? ((⟨vb, 0, none⟩ : Addr).add j) = some u := fun j u hj => by
    rw [Addr.add_lit, Nat.zero_add]; simp [World.cell?, hq1]; simpa using hj
  have hik : i * 1 ≤ xs.length := by rw [hxl]; omega
  have htl : (xs.take (i * 1)).length = i * 1 := by rw [List.length_take]; omega
  -- the first copy: the new one
  have hcp1 : ∀ ty dc oo, oo = i * 1 → (Builtin.copy_ #[30, 30] ty #[.slice (some ⟨w.heap.size, oo, none⟩) (c + 1 - i) dc, .slice (some ⟨vb, 0, none⟩) 1 1]).run Try.prog W1 = .ok (goInt 1) (W1.setRow w.heap.size (xs.take (i * 1) ++ q ++ Z.drop 1).toArray) := fun ty dc oo hoo => by
    subst hoo
    have hmin : Nat.min 1 (c + 1 - i) = 1 := by simp only [Nat.min_def]; split <;> omega
    have := copy_rowK (P := Try.prog) 1 W1 30 30 ty 9 w.heap.size (i * 1) (c + 1 - i) dc ⟨vb, 0, none⟩ 1 1 _ 9 q Try.underlying30 hsz hb1 (by rw [hmin, hql]) hql1 (by rw [List.size_toArray, List.length_append, htl, hZl, hql]; have : 1 * 1 ≤ (C - i) * 1 := Nat.mul_le_mul_right _ (by omega); omega) h1
    rw [hmin] at this
    rw [this]
    have es := splice_in xs q Z (i * 1) hik (by rw [hql, hZl]; omega)
    dsimp only
    rw [es, hql]
    rfl
  obtain ⟨W2, hW2⟩ : ∃ W2, W2 = W1.setRow w.heap.size (xs.take (i * 1) ++ q ++ Z.drop 1).toArray := ⟨_, rfl⟩
  rw [← hW2] at hcp1
  have hb2 : W2.drew.heap[w.heap.size]? = some (.cells (xs.take (i * 1) ++ q ++ Z.drop 1).toArray 9 (0, 0)) := by rw [hW2]; exact setRow_heap W1 _ _ _ _ _ hb1
  have hg2 : W2.drew.heap[g]? = some (.cells cur 9 (0, 0)) := by rw [hW2]; exact (setRow_other W1 _ g _ (by omega)).trans hg1
  -- the second copy: what stood behind
  have hcp2 : ∀ ty dc sc oo pp, oo = (i + 1) * 1 → pp = i * 1 → (Builtin.copy_ #[30, 30] ty #[.slice (some ⟨w.heap.size, oo, none⟩) (c - i) dc, .slice (some ⟨g, pp, none⟩) (c - i) sc]).run Try.prog W2.drew = .ok (goInt ((c - i : Nat) : Int)) (W2.drew.setRow w.heap.size (xs.take (i * 1) ++ q ++ xs.drop (i * 1) ++ Z.drop ((m) * 1)).toArray) := fun ty dc sc oo pp hoo hpp => by
    subst hoo hpp
    have hmin : Nat.min (c - i) (c - i) = c - i := Nat.min_self _
    have hdl : (xs.drop (i * 1)).length = (c - i) * 1 := by rw [List.length_drop, hxl]; omega
    have hf2 : (i + 1) * 1 + (xs.drop (i * 1)).length ≤ (xs.take (i * 1) ++ q ++ Z.drop 1).toArray.size := by
      rw [List.size_toArray, List.length_append, List.length_append, htl, hql, hdl, List.length_drop, hZl]
      have e7 : (c - i) * 1 + 1 * 1 ≤ (C - i) * 1 := by rw [← Nat.add_mul]; exact Nat.mul_le_mul_right _ (by omega)
      have e9 : (i + 1) * 1 = i * 1 + 1 * 1 := Nat.add_mul ..
      omega
    have := copy_rowK (P := Try.prog) 1 W2.drew 30 30 ty 9 w.heap.size ((i + 1) * 1) (c - i) dc ⟨g, i * 1, none⟩ (c - i) sc _ 9 (xs.drop (i * 1)) Try.underlying30 hsz hb2 (by rw [hmin, hdl]) (fun j u hj => by
      rw [Addr.add_lit]
      rw [List.getElem?_drop, hxs] at hj
      simp [World.cell?, hg2]
      simpa using hj) hf2 (fun v hv => hx1 v (List.mem_of_mem_drop hv))
    rw [hmin] at this
    rw [this]
    have ht : (xs.take (i * 1) ++ q).length = (i + 1) * 1 := by rw [List.length_append, htl, hql]; omega
    have e2 : (xs.take (i * 1) ++ q ++ Z.drop 1).take ((i + 1) * 1) ++ xs.drop (i * 1) ++ (xs.take (i * 1) ++ q ++ Z.drop 1).drop ((i + 1) * 1 + (xs.drop (i * 1)).length) = xs.take (i * 1) ++ q ++ xs.drop (i * 1) ++ Z.drop (m * 1) := by
      rw [List.take_append_of_le_length (by omega), List.take_of_length_le (by omega)]
      rw [List.drop_append, ht]
      have e1 : (xs.take (i * 1) ++ q).drop ((i + 1) * 1 + (xs.drop (i * 1)).length) = [] := by apply List.drop_eq_nil_of_le; omega
      rw [e1, List.nil_append, List.drop_drop, hdl]
      congr 2
      omega
    dsimp only
    rw [e2]
  obtain ⟨W3, hW3⟩ : ∃ W3, W3 = W2.drew.setRow w.heap.size (xs.take (i * 1) ++ q ++ xs.drop (i * 1) ++ Z.drop (m * 1)).toArray := ⟨_, rfl⟩
  rw [← hW3] at hcp2
  have HR : Hid (AppendK 1 B 9 w W3 (.slice (some ⟨g, 0, none⟩) c c) (.slice (some ⟨w.heap.size, 0, none⟩) (c + 1) C) (c + 1) (xs.take (i * 1) ++ q ++ xs.drop (i * 1))) := by
    have hL : (xs.take (i * 1) ++ q ++ xs.drop (i * 1)).length = (c + 1) * 1 := by
      rw [List.length_append, List.length_append, htl, hql, List.length_drop, hxl]
      have e9 : (c + 1) * 1 = c * 1 + 1 * 1 := Nat.add_mul ..
      have e8 : i * 1 ≤ c * 1 := Nat.mul_le_mul_right _ (by omega)
      omega
    refine ⟨⟨hL, .inr ⟨w.heap.size, C, _, rfl, hB, by rw [hW3]; exact setRow_heap W2.drew _ _ _ _ _ hb2, hC1, hC2, ?_, ?_⟩⟩, ?_, fun x hx => .inr (by simp [Value.ownBlock] at hx; omega), ⟨_, _, rfl⟩⟩
    · rw [List.size_toArray, List.length_append, hL, List.length_drop, hZl]; 
      have : m * 1 ≤ (C - i) * 1 := Nat.mul_le_mul_right _ (by omega)
      omega
    · rw [List.toList_toArray, ← hL]; exact List.take_left
    · rw [hW3, hW2, hW1]
      refine ⟨rfl, rfl, rfl, by simp [World.setRow], fun k hk _ => ?_⟩
      have : k ≠ w.heap.size := by omega
      rw [setRow_other _ _ k _ this]
      show (World.setRow _ _ _).heap[k]? = _
      rw [setRow_other _ _ k _ this]
      exact Below.heap_alloc w.drew _ k hk
  have z1 : ¬ ((i : Int) = (c : Int)) := by omega
  have z1' : ((i : Int) == (c : Int)) = false := by simpa using z1
  have z2 : IntKind.i64.wrap ((i : Int) + 1) = (i : Int) + 1 := by rw [IntKind.wrap_i64]; omega
  have z3 : (c : Int) + 1 - (i : Int) = (m : Int) := by omega
  have z4 : ¬ C = i := by omega
  have z5 : ¬ C = i + 1 := by omega
  have z6 : ¬ c = i := by omega
  have z7 : ((i : Int) + 1).toNat = i + 1 := by omega
  have z8 : (0 : Int) ≤ (i : Int) + 1 := by omega
  have z9 : (c : Int) < (c : Int) + 1 := by omega
  have z10 : i ≤ c := by omega
  have z11 : (i : Int) + 1 ≤ (c : Int) + 1 := by omega
  have Hzg : Hid _ := hzg'
  have hc1 := fun ty dc => hcp1 ty dc i (by omega)
  have hc2 := fun ty dc sc => hcp2 ty dc sc (i + 1) i (by omega) (by omega)
  clear hW1 hW2 hW3 hzg hzg' hcp1 hcp2 hb1 hb2 hg1 hg2 hq1 hql1 hrow hZ hC hold hcell hxs htk hcs hm e1 hg hq hxl hsz h1 hx1 hql hZl hik htl
  go_enter Try.func27, Try.ntmps27
  go_wp2_with (at_builtin; refine Lib.wpList_append_run _ rfl _ _ 30 3 rfl _ _ rfl rfl _ _ (Hzg.out _) ?_)
  go_region
  go_wp2
  go_ret
  exact ⟨_, rfl, HR.out⟩

set_option maxRecDepth 100000 in
set_option maxHeartbeats 4000000 in
/-- In the middle, with room: in place. -/
theorem insStr_shift (B : Nat) (n c i g : Nat) (cur : Array Value) (xs q : List Value) (vb : Nat) (w : World) (hg : w.heap[g]? = some (.cells cur 9 (0, 0))) (hBg : B ≤ g) (hcs : cur.size = c * 1) (htk : cur.toList.take (n * 1) = xs) (hi' : i < n) (hc : n + 1 ≤ c) (hc63 : c ≤ maxLen) (hn : n ≤ 100000) (hx1 : ∀ v ∈ xs, v.oneCell' = true)
    (hq : w.heap[vb]? = some (.cells q.toArray 9 (0, 0))) (hvb : vb ≠ g) (hql : q.length = 1) (h1 : ∀ v ∈ q, v.oneCell' = true) (hB : B ≤ w.heap.size) :
    Calls Try.prog 27 #[.slice (some ⟨g, 0, none⟩) n c, .int .i64 i, .slice (some ⟨vb, 0, none⟩) 1 1] w fun e w' => ∃ v', e = .returned v' ∧ AppendK 1 B 9 w w' (.slice (some ⟨g, 0, none⟩) n c) v' (n + 1) (xs.take (i * 1) ++ q ++ xs.drop (i * 1)) := by
  obtain ⟨i0, hi, hz0, hz1, hz2⟩ := infoStr_parts
  have hsz : (Try.prog.info? 9).map (·.size) = some 1 := by rw [hi]; simp [hz1]
  have hnc : n * 1 + 1 * 1 ≤ c * 1 := by rw [← Nat.add_mul]; exact Nat.mul_le_mul_right _ hc
  have hxl : xs.length = n * 1 := by rw [← htk, List.length_take, Array.length_toList, hcs]; omega
  have hik : i * 1 + 1 * 1 ≤ n * 1 := by rw [← Nat.add_mul]; exact Nat.mul_le_mul_right _ hi'
  obtain ⟨Y, hY⟩ : ∃ Y, Y = cur.toList.drop (n * 1) := ⟨_, rfl⟩
  have hcur : cur = (xs ++ Y).toArray := by
    apply Array.ext'; rw [List.toList_toArray, ← htk, hY, List.take_append_drop]
  have hYl : Y.length = c * 1 - n * 1 := by rw [hY, List.length_drop, Array.length_toList, hcs]
  have hcell : ∀ (W : World), W.heap[g]? = some (.cells (xs ++ Y).toArray 9 (0, 0)) → ∀ j u, xs[j]? = some u → W.cell? ⟨g, j, none⟩ = some u := fun W hW j u hj => by
    have hjl : j < xs.length := (List.getElem?_eq_some_iff.1 hj).1
    simp [World.cell?, hW]
    rw [List.getElem?_append_left hjl]; exact hj
  rw [hcur] at hg
  have htl : (xs.take (i * 1)).length = i * 1 := by rw [List.length_take]; omega
  have hdl : (xs.drop (i * 1)).length = (n - i) * 1 := by rw [List.length_drop, hxl, Nat.sub_mul]
  have hni : (n - i) * 1 = n * 1 - i * 1 := Nat.sub_mul ..
  -- the first copy: what stands behind goes up
  have hcp1 : ∀ ty dc sc oo pp, oo = (i + 1) * 1 → pp = i * 1 → (Builtin.copy_ #[30, 30] ty #[.slice (some ⟨g, oo, none⟩) (n - i) dc, .slice (some ⟨g, pp, none⟩) (n + 1 - i) sc]).run Try.prog w.drew = .ok (goInt ((n - i : Nat) : Int)) (w.drew.setRow g ((xs ++ Y).take ((i + 1) * 1) ++ xs.drop (i * 1) ++ (xs ++ Y).drop ((i + 1) * 1 + (n - i) * 1)).toArray) := fun ty dc sc oo pp hoo hpp => by
    subst hoo hpp
    have hmin : Nat.min (n + 1 - i) (n - i) = n - i := Nat.min_eq_right (by omega)
    have hf1 : (i + 1) * 1 + (xs.drop (i * 1)).length ≤ (xs ++ Y).toArray.size := by
      rw [List.size_toArray, List.length_append, hxl, hYl, hdl]
      have e9 : (i + 1) * 1 = i * 1 + 1 * 1 := Nat.add_mul ..
      omega
    have := copy_rowK (P := Try.prog) 1 w.drew 30 30 ty 9 g ((i + 1) * 1) (n - i) dc ⟨g, i * 1, none⟩ (n + 1 - i) sc _ 9 (xs.drop (i * 1)) Try.underlying30 hsz hg (by rw [hmin, hdl]) (fun j u hj => by
      rw [Addr.add_lit]
      rw [List.getElem?_drop] at hj
      exact hcell w hg _ u hj) hf1 (fun v hv => hx1 v (List.mem_of_mem_drop hv))
    rw [hmin, hdl] at this
    rw [this]
  obtain ⟨R1, hR1⟩ : ∃ R1, R1 = (xs ++ Y).take ((i + 1) * 1) ++ xs.drop (i * 1) ++ (xs ++ Y).drop ((i + 1) * 1 + (n - i) * 1) := ⟨_, rfl⟩
  rw [← hR1] at hcp1
  have e9 : (i + 1) * 1 = i * 1 + 1 * 1 := Nat.add_mul ..
  have ht1 : ((xs ++ Y).take ((i + 1) * 1)).length = (i + 1) * 1 := by rw [List.length_take, List.length_append, hxl, hYl]; omega
  have hR1l : R1.length = c * 1 := by
    rw [hR1, List.length_append, List.length_append, ht1, hdl, List.length_drop, List.length_append, hxl, hYl]; omega
  have hR1t : R1.take (i * 1) = xs.take (i * 1) := by
    rw [hR1, List.append_assoc, List.take_append_of_le_length (by rw [ht1]; omega), List.take_take, show min (i * 1) ((i + 1) * 1) = i * 1 by omega, List.take_append_of_le_length (by rw [hxl]; omega)]
  have hR1d : R1.drop ((i + 1) * 1) = xs.drop (i * 1) ++ (xs ++ Y).drop ((i + 1) * 1 + (n - i) * 1) := by
    rw [hR1, List.append_assoc, List.drop_append, ht1, List.drop_eq_nil_of_le (by rw [ht1]; exact Nat.le_refl _), Nat.sub_self]; rfl
  obtain ⟨W1, hW1⟩ : ∃ W1, W1 = w.drew.setRow g R1.toArray := ⟨_, rfl⟩
  rw [← hW1] at hcp1
  have hg1 : W1.heap[g]? = some (.cells R1.toArray 9 (0, 0)) := by rw [hW1]; exact setRow_heap w.drew g _ _ _ _ hg
  have hq1 : W1.heap[vb]? = some (.cells q.toArray 9 (0, 0)) := by rw [hW1]; exact (setRow_other w.drew g vb _ hvb).trans hq
  -- the second copy: the new one
  have hcp2 : ∀ ty dc pp, pp = i * 1 → (Builtin.copy_ #[30, 30] ty #[.slice (some ⟨g, pp, none⟩) (n + 1 - i) dc, .slice (some ⟨vb, 0, none⟩) 1 1]).run Try.prog W1 = .ok (goInt 1) (W1.setRow g (xs.take (i * 1) ++ q ++ xs.drop (i * 1) ++ (xs ++ Y).drop ((i + 1) * 1 + (n - i) * 1)).toArray) := fun ty dc pp hpp => by
    subst hpp
    have hmin : Nat.min 1 (n + 1 - i) = 1 := Nat.min_eq_left (by omega)
    have := copy_rowK (P := Try.prog) 1 W1 30 30 ty 9 g (i * 1) (n + 1 - i) dc ⟨vb, 0, none⟩ 1 1 _ 9 q Try.underlying30 hsz hg1 (by rw [hmin, hql]) (fun j u hj => by
      rw [Addr.add_lit, Nat.zero_add]; simp [World.cell?, hq1]; simpa using hj) (by rw [List.size_toArray, hR1l, hql]; omega) h1
    rw [hmin] at this
    rw [this]
    dsimp only
    rw [hR1t, hql, show i * 1 + 1 = (i + 1) * 1 by omega, hR1d, ← List.append_assoc]
    rfl
  obtain ⟨W2, hW2⟩ : ∃ W2, W2 = W1.setRow g (xs.take (i * 1) ++ q ++ xs.drop (i * 1) ++ (xs ++ Y).drop ((i + 1) * 1 + (n - i) * 1)).toArray := ⟨_, rfl⟩
  rw [← hW2] at hcp2
  have HR : Hid (AppendK 1 B 9 w W2 (.slice (some ⟨g, 0, none⟩) n c) (.slice (some ⟨g, 0, none⟩) (n + 1) c) (n + 1) (xs.take (i * 1) ++ q ++ xs.drop (i * 1))) := by
    have hL : (xs.take (i * 1) ++ q ++ xs.drop (i * 1)).length = (n + 1) * 1 := by
      rw [List.length_append, List.length_append, htl, hql, hdl]
      have e9 : (n + 1) * 1 = n * 1 + 1 * 1 := Nat.add_mul ..
      omega
    refine ⟨⟨hL, .inr ⟨g, c, _, rfl, hBg, by rw [hW2]; exact setRow_heap W1 _ _ _ _ _ hg1, hc, hc63, ?_, ?_⟩⟩, ?_, fun x hx => .inl hx, ⟨_, _, rfl⟩⟩
    · rw [List.size_toArray, List.length_append, hL, List.length_drop, List.length_append, hxl, hYl]
      have e8 : (n + 1) * 1 = n * 1 + 1 * 1 := Nat.add_mul ..
      omega
    · rw [List.toList_toArray, ← hL]; exact List.take_left
    · rw [hW2, hW1]
      refine ⟨rfl, rfl, rfl, by simp [World.setRow], fun k hk hne => ?_⟩
      have : k ≠ g := fun e => hne (by rw [e]; rfl)
      rw [setRow_other _ _ k _ this]
      show (World.setRow _ _ _).heap[k]? = _
      rw [setRow_other _ _ k _ this]
      rfl
  have hov : ∀ lb cb oo, (callFunc 37 #[.slice (some ⟨vb, 0, none⟩) 1 1, .slice (some ⟨g, oo, none⟩) lb cb]).run Try.prog w = .ok (.value (.bool false)) w := fun lb cb oo => by
    have hsa : w.shape? vb = some (9, 1) := by simp [World.shape?, hq, hql]
    have hsb : w.shape? g = some (9, c * 1) := by simp [World.shape?, hg, hxl, hYl]; omega
    rw [run_callFunc_extern Try.func37 (by kernel_rfl) (by kernel_rfl) (by kernel_rfl) (e := Extern.SlicesOverlaps.overlaps #[30, 30] #[4]) (by kernel_rfl),
      Lib.run_overlaps_apart w 30 4 9 Try.underlying30 1 sizeStr ⟨vb, 0, none⟩ ⟨g, oo, none⟩ 1 1 lb cb hvb _ _ 1 (c * 1) hsa hsb (by omega) (by simp [World.frozen?, hq]) (by simp [World.frozen?, hq])]
    rfl
  have z1 : ¬ ((i : Int) = (n : Int)) := by omega
  have z1' : ((i : Int) == (n : Int)) = false := by simpa using z1
  have z2 : IntKind.i64.wrap ((i : Int) + 1) = (i : Int) + 1 := by rw [IntKind.wrap_i64]; omega
  have z4 : ¬ c = i := by omega
  have z5 : ¬ c = i + 1 := by omega
  have z7 : ((i : Int) + 1).toNat = i + 1 := by omega
  have z8 : (0 : Int) ≤ (i : Int) + 1 := by omega
  have z9 : ¬ (c : Int) < (n : Int) + 1 := by omega
  have z10 : i ≤ n := by omega
  have z11 : (i : Int) + 1 ≤ (n : Int) + 1 := by omega
  have z12 : (n : Int) + 1 ≤ (c : Int) := by omega
  have z13 : (i : Int) ≤ (n : Int) + 1 := by omega
  have hc1 := fun ty dc sc => hcp1 ty dc sc (i + 1) i (by omega) (by omega)
  have hc2 := fun ty dc => hcp2 ty dc i (by omega)
  have Hov : Hid _ := hov
  clear hW1 hW2 hcp1 hcp2 hg1 hq1 hcell htk hcs hg hq hsz h1 hx1 hql hik htl hdl hni hR1 hR1l hR1t hR1d ht1 hYl hY hcur hxl hov hnc e9
  unfold maxLen at hc63
  go_enter Try.func27, Try.ntmps27
  go_wp2_with (simp only [Hov.out])
  go_region
  go_wp2
  go_ret
  exact ⟨_, rfl, HR.out⟩

/-- Anywhere. -/
theorem insStr_any (B : Nat) (v : Value) (n i : Nat) (xs q : List Value) (vb : Nat) (w : World) (hown : w.ownsRow B 9 1 v n xs) (hi : i ≤ n) (hn : n ≤ 100000) (hx1 : ∀ v ∈ xs, v.oneCell' = true)
    (hq : w.heap[vb]? = some (.cells q.toArray 9 (0, 0))) (hvb : v.ownBlock ≠ some vb) (hql : q.length = 1) (h1 : ∀ v ∈ q, v.oneCell' = true) (hB : B ≤ w.heap.size) :
    Calls Try.prog 27 #[v, .int .i64 i, .slice (some ⟨vb, 0, none⟩) 1 1] w fun e w' => ∃ v', e = .returned v' ∧ AppendK 1 B 9 w w' v v' (n + 1) (xs.take (i * 1) ++ q ++ xs.drop (i * 1)) := by
  by_cases hin : i = n
  · subst hin
    have hl := hown.1
    have := insStr_end B v i xs q vb w hown hn hq hql h1 hB
    rw [List.take_of_length_le (by omega), List.drop_eq_nil_of_le (by omega), List.append_nil]
    exact this
  · rcases hown.2 with ⟨_, h0⟩ | ⟨g, cap, cur, rfl, hBg, hg, hnc, hcm, hcs, htk⟩
    · omega
    · by_cases hroom : n + 1 ≤ cap
      · exact insStr_shift B n cap i g cur xs q vb w hg hBg hcs htk (by omega) hroom hcm hn hx1 hq (fun e => hvb (by rw [e]; rfl)) hql h1 hB
      · exact insStr_grow B n cap i g cur xs q vb w hg hcs htk (by omega) hnc (by omega) hn hx1 hq hql h1 hB

end Go.Proofs.Ytffdknjocmfmfaa
