/- A row of the call's own (four cells an element): an element taken out of it in place, its end cleared. No program in sight. -/
import Derived.Test.YtgbdnclolgdojaaDoorOwnSrc4
import Derived.Test.YtgbdnclolgdojaaDoorRowMath
import Derived.Laws.AppendOwn
import Derived.WalkKit
namespace Go.Proofs.YtgbdnclolgdojaaDoor
open Go.RowKit

section
variable {P : Program} (w : World)

theorem zeroCells_one (zs : Array Value) (n : Nat) (h1 : ∀ v ∈ zs, v.oneCell' = true) : ∀ v ∈ (Builtin.zeroCells zs n).toList, v.oneCell' = true := by
  intro v hv
  simp only [Builtin.zeroCells, Array.toList_map, Array.toList_range, List.mem_map, List.mem_range] at hv
  obtain ⟨i, hi, rfl⟩ := hv
  have hp : 0 < zs.size := by
    rcases Nat.eq_zero_or_pos zs.size with h | h
    · rw [h] at hi; simp at hi
    · exact h
  have hlt : i % zs.size < zs.size := Nat.mod_lt _ hp
  rw [getElem!_pos zs _ hlt]
  exact h1 _ (Array.getElem_mem hlt)

theorem run_clear_row (t e ty : TypeId) (z : Value) (zs : Array Value) (ht : P.underlying t = some (.slice e)) (hv : ∀ w, (zeroValue e).run P w = .ok z w) (hz : z.cells = zs) (h1 : ∀ v ∈ zs, v.oneCell' = true)
    (g o n c : Nat) (cur : Array Value) (hg : w.heap[g]? = some (.cells cur e (0, 0))) (hn : 0 < n) (hfit : o + n * zs.size ≤ cur.size) :
    (Builtin.clear_ #[t] ty #[.slice (some ⟨g, o, none⟩) n c]).run P w = .ok (.tuple #[]) (w.setRow g (cur.toList.take o ++ (Builtin.zeroCells zs n).toList ++ cur.toList.drop (o + n * zs.size)).toArray) := by
  have hl : (Builtin.zeroCells zs n).toList.length = n * zs.size := by rw [Array.length_toList, size_zeroCells]
  have hst := run_storeCells_at P g o e (Builtin.zeroCells zs n).toList 0 cur w hg (by rw [hl]; simpa using hfit) (zeroCells_one zs n h1)
  rw [hl] at hst
  simp only [Nat.add_zero] at hst
  obtain ⟨m, rfl⟩ : ∃ m, n = m + 1 := ⟨n - 1, by omega⟩
  simp [Builtin.clear_, run_underlying ht, hv, hz, hst]

/-- An append in place at a step of a region that draws its order. -/
theorem step_room_src {ops : Array Oper} {o : Oper} {a : Act} {K : Act → World → Prop} {Q : Exit → Act → World → Prop} {E : Prop} (hgd : o.guard = none) (s x : Operand) (t tx : TypeId)
    (ho : o.op = .call { callee := .builtin .append, args := #[s, x], argTypes := #[t, tx] })
    (e : TypeId) (i : TypeInfo) (ht : P.underlying t = some (.slice e)) (hi : P.info? e = some i)
    (g n cap : Nat) (cur : Array Value) (hg : w.heap[g]? = some (.cells cur e (0, 0))) (hs : a.eval s = .slice (some ⟨g, 0, none⟩) n cap)
    (xv : Value) (m : Nat) (news : List Value) (hx : a.eval x = xv) (hsrc : Src P i.size tx xv m news w)
    (hroom : n + m ≤ cap) (hfit : n * i.size + news.length ≤ cur.size)
    (h : K (a.put o.dst (.slice (some ⟨g, 0, none⟩) (n + m) cap)) (w.setRow g (cur.toList.take (n * i.size) ++ news ++ cur.toList.drop (n * i.size + news.length)).toArray)) :
    if Region.wanted o (yielded ops a.tmps) = true then Oper.wp P o a w K Q else E := by
  have hw : Region.wanted o (yielded ops a.tmps) = true := by simp [Region.wanted, hgd]
  rw [if_pos hw]
  have hr := room_src (P := P) w t tx o.type e i ht hi g n cap cur hg xv m news hsrc hroom hfit
  unfold Oper.wp execOp
  simp only [ho, resolve, invoke, builtin, Sem.run_bind, Sem.run_pure, Result.andThen_ok, List.map_toArray, List.map_cons, List.map_nil, hs, hx, hr]
  exact h
end

/-- An element taken out of a row of k cells each: the row's cells behind the append and the clearing. -/
theorem del_cur {α : Type} (enc : α → List Value) (hk : ∀ a, (enc a).length = 4) (cur zz : List Value) (ps : List α) (k : Nat) (hlt : k < ps.length) (hcur : cur.take (ps.length * 4) = ps.flatMap enc) (hlen : ps.length * 4 ≤ cur.length) (hzz : zz.length = 4) :
    (cur.take (k * 4) ++ (ps.drop (k + 1)).flatMap enc ++ cur.drop (k * 4 + ((ps.drop (k + 1)).flatMap enc).length)).length = cur.length ∧
    ∀ c1 : List Value, c1 = cur.take (k * 4) ++ (ps.drop (k + 1)).flatMap enc ++ cur.drop (k * 4 + ((ps.drop (k + 1)).flatMap enc).length) →
      (c1.take ((ps.length - 1) * 4) ++ zz ++ c1.drop ((ps.length - 1) * 4 + 4)).length = cur.length ∧
      (c1.take ((ps.length - 1) * 4) ++ zz ++ c1.drop ((ps.length - 1) * 4 + 4)).take ((ps.length - 1) * 4) = (ps.eraseIdx k).flatMap enc := by
  have hn : ((ps.drop (k + 1)).flatMap enc).length = (ps.length - (k + 1)) * 4 := by rw [flat_len enc 4 hk, List.length_drop]
  have l1 : (cur.take (k * 4) ++ (ps.drop (k + 1)).flatMap enc ++ cur.drop (k * 4 + ((ps.drop (k + 1)).flatMap enc).length)).length = cur.length := by
    simp only [List.length_append, List.length_take, List.length_drop, hn]; omega
  refine ⟨l1, fun c1 hc1 => ?_⟩
  have l2 : c1.length = cur.length := by rw [hc1]; exact l1
  have l3 : (c1.take ((ps.length - 1) * 4)).length = (ps.length - 1) * 4 := by rw [List.length_take]; omega
  refine ⟨by simp only [List.length_append, List.length_take, List.length_drop, hzz, l2]; omega, ?_⟩
  rw [List.append_assoc, List.take_append_of_le_length (by omega), List.take_of_length_le (by omega)]
  have e1 : cur.take (k * 4) = (ps.take k).flatMap enc := by
    rw [← flat_take enc 4 hk, ← hcur, List.take_take]; congr 1; omega
  have e2 : ((ps.take k).flatMap enc ++ (ps.drop (k + 1)).flatMap enc).length = (ps.length - 1) * 4 := by
    rw [List.length_append, flat_len enc 4 hk, hn, List.length_take]; omega
  rw [hc1, e1, List.take_append_of_le_length (by omega), List.take_of_length_le (by omega), List.eraseIdx_eq_take_drop_succ, List.flatMap_append]
end Go.Proofs.YtgbdnclolgdojaaDoor
