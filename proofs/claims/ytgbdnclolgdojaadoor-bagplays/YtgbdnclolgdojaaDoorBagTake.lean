/- slices.Delete of one packet; bag.Take, bag.Copy. -/
import Derived.Test.YtgbdnclolgdojaaDoorBagFind2
import Derived.Deep.RegionLaw
namespace Go.Proofs.YtgbdnclolgdojaaDoor
open Go.ChangeShapes Go.WideShapes Go.ChangeAt Go.RowKit
set_option linter.unusedVariables false

set_option maxRecDepth 100000 in
set_option maxHeartbeats 2000000 in
theorem delete_any (B : Nat) (v : Value) (ps : List Pk) (k : Nat) (w : World) (hrow : w.ownsRow B 41 4 v ps.length (ps.flatMap Pk.cells)) (hk : k < ps.length) (hlen : ps.length ≤ 4000) :
    Calls Tryd.prog 34 #[v, .int .i64 k, .int .i64 (k + 1)] w
      fun e w' => ∃ v', e = .returned v' ∧ w'.ownsRow B 41 4 v' (ps.length - 1) ((ps.eraseIdx k).flatMap Pk.cells) ∧ w.grownBy w' v.ownBlock ∧ v'.ownBlock = v.ownBlock ∧ w'.heap.size = w.heap.size ∧ ∃ a c, v' = .slice a (ps.length - 1) c := by
  obtain ⟨i0, hi, hz0, hz1, hz2⟩ := info_parts Tryd.infoPk
  rcases hrow.2 with ⟨_, h0⟩ | ⟨gg, cap, cur, rfl, hB, hg, hnc, hcm, hcs, htake⟩
  · omega
  unfold maxLen at hcm
  obtain ⟨m, hm⟩ : ∃ m, ps.length = m + 1 := ⟨ps.length - 1, by omega⟩
  rw [hm] at hrow hk hlen hnc htake ⊢
  have HM : Hid (ps.length = m + 1) := hm
  obtain ⟨news, hnews⟩ : ∃ news, news = (ps.drop (k + 1)).flatMap Pk.cells := ⟨_, rfl⟩
  have hnl : news.length = (m - k) * 4 := by rw [hnews, flat_len Pk.cells 4 Pk.cells_len, List.length_drop, hm, Nat.add_sub_add_right]
  clear hm
  obtain ⟨A, hA, hsrc⟩ : ∃ A : Addr, (if cap = k + 1 then some (⟨gg, 0, none⟩ : Addr) else some ⟨gg, (k + 1) * 4, none⟩) = some A ∧ Hid (∀ t u, news[t]? = some u → w.drew.cell? (A.add t) = some u) := by
    have hget : ∀ t u, news[t]? = some u → w.drew.cell? ⟨gg, (k + 1) * 4 + t, none⟩ = some u := by
      intro t u hu
      have e : (ps.flatMap Pk.cells)[(k + 1) * 4 + t]? = some u := by
        rw [← hu, hnews, ← flat_drop Pk.cells 4 Pk.cells_len, List.getElem?_drop]
      have := hrow.cells (g := gg) rfl ((k + 1) * 4 + t) u e
      rwa [Addr.add_lit, Nat.zero_add] at this
    by_cases h : cap = k + 1
    · refine ⟨⟨gg, 0, none⟩, by simp [h], fun t u hu => ?_⟩
      have h0 : news.length = 0 := by rw [hnl]; omega
      rw [List.length_eq_zero_iff.1 h0] at hu
      simp at hu
    · refine ⟨⟨gg, (k + 1) * 4, none⟩, by simp [h], fun t u hu => ?_⟩
      rw [Addr.add_lit]
      exact hget t u hu
  have hone : ∀ u ∈ news, u.oneCell' = true := by
    intro u hu
    rw [hnews] at hu
    obtain ⟨q, _, hq⟩ := List.mem_flatMap.1 hu
    simp only [Pk.cells, List.mem_cons, List.not_mem_nil, or_false] at hq
    rcases hq with rfl | rfl | rfl | rfl <;> rfl
  have HS : Hid (Src Tryd.prog 4 23 (.slice (some A) (m - k) (cap - (k + 1))) (m - k) news w.drew) :=
    Src.ofSlice _ Tryd.underlying23 _ _ _ _ hnl hsrc.out hone
  have hi1 : (0 : Int) ≤ (k : Int) := Int.natCast_nonneg _
  have hi2 : (k : Int) + 1 ≤ ((m + 1) : Int) := by omega
  have hi3 : ((m + 1) : Int) ≤ (cap : Int) := by omega
  have hic : k ≤ cap := by omega
  have hjc : k + 1 ≤ cap := by omega
  have hic' : (k : Int) ≤ (cap : Int) := by omega
  have hjc' : (k : Int) + 1 ≤ (cap : Int) := by omega
  have hj0 : (0 : Int) ≤ (k : Int) + 1 := by omega
  obtain ⟨cur1, hcur1⟩ : ∃ c : Array Value, c = (cur.toList.take (k * 4) ++ news ++ cur.toList.drop (k * 4 + news.length)).toArray := ⟨_, rfl⟩
  have HC1 : Hid (cur1 = (cur.toList.take (k * 4) ++ news ++ cur.toList.drop (k * 4 + news.length)).toArray) := hcur1
  obtain ⟨w1, hw1⟩ : ∃ w1, w1 = w.drew.setRow gg cur1 := ⟨_, rfl⟩
  have HW1 : Hid (w1 = w.drew.setRow gg cur1) := hw1
  obtain ⟨zz, hzz⟩ : ∃ zz, zz = (Builtin.zeroCells #[Value.int .i64 0, .int .i64 0, .int .i64 0, .string ByteArray.empty] 1).toList := ⟨_, rfl⟩
  have hzl : zz.length = 4 := by rw [hzz, Array.length_toList, size_zeroCells]; rfl
  have hdc := del_cur Pk.cells Pk.cells_len cur.toList zz ps k (by rw [HM.out]; omega) (by rw [HM.out]; exact htake) (by rw [HM.out, Array.length_toList, hcs]; omega) hzl
  rw [← hnews, HM.out] at hdc
  have hs1 : cur1.size = cur.size := by rw [hcur1]; simpa using hdc.1
  have hd2 := hdc.2 cur1.toList (by rw [hcur1])
  have hg1 : w1.heap[gg]? = some (.cells cur1 41 (0, 0)) := by rw [hw1]; exact setRow_heap w.drew gg cur _ _ _ hg
  obtain ⟨cur2, hcur2⟩ : ∃ c : Array Value, c = (cur1.toList.take (m * 4) ++ zz ++ cur1.toList.drop (m * 4 + 1 * 4)).toArray := ⟨_, rfl⟩
  obtain ⟨w2, hw2⟩ : ∃ w2, w2 = w1.setRow gg cur2 := ⟨_, rfl⟩
  have hv : ∀ w, (zeroValue 41).run Tryd.prog w = .ok (.agg #[.int .i64 0, .int .i64 0, .int .i64 0, .string ByteArray.empty]) w := fun w => by
    simp [zeroValue, typeInfo, hi, hz0]
  have hcl : (Builtin.clear_ #[23] 0 #[.slice (some ⟨gg, m * 4, none⟩) 1 (cap - m)]).run Tryd.prog w1 = .ok (.tuple #[]) w2 := by
    rw [hw2, hcur2, hzz]
    exact run_clear_row w1 _ _ _ _ #[Value.int .i64 0, .int .i64 0, .int .i64 0, .string ByteArray.empty] Tryd.underlying23 hv rfl (by simp [Value.oneCell']) gg (m * 4) 1 (cap - m) cur1 hg1 (by omega) (by rw [hs1, hcs]; simp; omega)
  have HF : Hid (w2.ownsRow B 41 4 (.slice (some ⟨gg, 0, none⟩) m cap) m ((ps.eraseIdx k).flatMap Pk.cells) ∧ w.grownBy w2 (some gg) ∧ w2.heap.size = w.heap.size) := by
    refine ⟨⟨?_, .inr ⟨gg, cap, cur2, rfl, hB, ?_, by omega, by unfold maxLen; omega, ?_, ?_⟩⟩, ?_, ?_⟩
    · rw [flat_len Pk.cells 4 Pk.cells_len, List.length_eraseIdx_of_lt (by rw [HM.out]; omega), HM.out]; simp
    · rw [hw2]; exact setRow_heap w1 gg cur1 _ _ _ hg1
    · have := hd2.1; rw [hcur2, ← hcs]; simpa using this
    · have := hd2.2; rw [hcur2]; simpa using this
    · rw [hw2, hw1]; exact ⟨rfl, rfl, rfl, by simp, fun j _ hj => (setRow_other _ gg j _ (fun e => hj (by rw [e]))).trans (setRow_other _ gg j _ (fun e => hj (by rw [e])))⟩
    · rw [hw2, hw1]; simp
  clear hcur1 hw1 hcur2 hw2 hdc hd2 hs1 hg1 hv hzz hzl
  have HR : Hid (w.ownsRow B 41 4 (.slice (some ⟨gg, 0, none⟩) (m + 1) cap) (m + 1) (ps.flatMap Pk.cells) ∧ w.heap[gg]? = some (.cells cur 41 (0, 0)) ∧ cur.size = cap * 4 ∧ cur.toList.take ((m + 1) * 4) = ps.flatMap Pk.cells ∧ news = (ps.drop (k + 1)).flatMap Pk.cells ∧ news.length = (m - k) * 4) := ⟨hrow, hg, hcs, htake, hnews, hnl⟩
  clear hrow hg hcs htake hnews hnl hsrc hone
  go_enter Tryd.func34, Tryd.ntmps34
  go_wp2_with fail
  go_region_law ((refine step_room_src _ (by rfl) _ _ 23 23 (by rfl) 41 i0 Tryd.underlying23 hi gg k cap cur HR.out.2.1 (by rfl) _ (m - k) news (by rfl) (by rw [hz1]; exact HS.out) (by omega) (by rw [hz1, HR.out.2.2.2.2.2, HR.out.2.2.1]; omega) ?_; rw [hz1, ← HC1.out, ← HW1.out, show k + (m - k) = m by omega]))
  all_goals
    go_wp2
    go_ret
    exact ⟨_, rfl, HF.out.1, HF.out.2.1, rfl, HF.out.2.2, _, _, rfl⟩
end Go.Proofs.YtgbdnclolgdojaaDoor
