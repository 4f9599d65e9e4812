/- Layer 9's answers that the document fixes. -/
import Derived.Test.YthniahbbnknkoaaPrCut
namespace Go.Proofs.Ythniahbbnknkoaa
open Go.ChangeShapes Go.WideShapes Go.ChangeAt Go.RowKit Go.Deep
set_option linter.unusedVariables false

/-- A list written out, in a block of its own. -/
theorem in_lit {α : Type} {enc : α → List Value} {ok : α → Prop} {d : α} {v : α → Value} (hv : ∀ x, enc x = [v x]) {w : World} {g : Nat} {T : TypeId} (l : List α) {arr : Array Value} (hl : l.map v = arr.toList) (hg : w.heap[g]? = some (.cells arr T (0, 0))) (hok : ∀ x ∈ l, ok x) (hm : l.length ≤ 9223372036854775807) :
    InRow 1 enc ok d w (some ⟨g, 0, none⟩) l.length l := by
  refine ⟨rfl, hm, .inr ⟨g, 0, rfl, ?_, fun i hi => ?_⟩⟩
  · rcases Nat.lt_or_ge g w.heap.size with q | q
    · exact q
    · rw [Array.getElem?_eq_none q] at hg; cases hg
  · have e0 : l.getD i d = l[i] := by simp [List.getD, hi]
    refine ⟨by rw [e0]; exact hok _ (List.getElem_mem _), fun j hj => ?_⟩
    obtain rfl : j = 0 := by omega
    have e1 : arr[i]? = some (v l[i]) := by rw [← Array.getElem?_toList, ← hl]; simp [hi]
    rw [e0, hv]
    simp [World.cell?, hg, e1]

theorem cell_far {w : World} {p a : Addr} {v : Value} (h : p.block ≠ a.block) : (w.setCell p v).cell? a = w.cell? a := by rw [World.cell?_setCell_other]; exact fun e => h (by rw [e])

theorem new_block (w : World) (o : Obj) {n : Nat} (h : n = w.heap.size) : (w.alloc o).heap[n]? = some o := by subst h; exact heap_alloc_new w o

theorem field_pred (a c : Value) (w : World) : (Instr.field 30 (.agg #[a, .int .i64 0, c]) 1).run Try.prog w = .ok (.int .i64 0) w := by kernel_rfl

set_option maxHeartbeats 2000000 in
theorem awake9_any (w : World) : Calls Try.prog 7 #[] w fun e w' => e = .returned (.bool true) ∧ Below w.heap.size w w' := by
  obtain ⟨W4, hW4⟩ : ∃ W4, W4 = (((w.alloc (.cells #[.bool true, .bool false, .bool true] 4)).alloc (.cells #[.int .u64 1, .int .u64 5, .int .u64 9] 27)).alloc (.cells #[.slice (some ⟨w.heap.size, 0, none⟩) 3 3, .slice (some ⟨w.heap.size + 1, 0, none⟩) 3 3] 25)).alloc (.cells #[.int .i64 3, .int .i64 4, .int .i64 5] 3) := ⟨_, rfl⟩
  have b4 : Below w.heap.size w W4 := by rw [hW4]; exact (((below_one _ _).trans ((below_one _ _).mono (by simp))).trans ((below_one _ _).mono (by simp; omega))).trans ((below_one _ _).mono (by simp; omega))
  have s4 : W4.heap.size = w.heap.size + 4 := by rw [hW4]; simp
  have L4 : LvIn W4 (some ⟨w.heap.size, 0, none⟩) 3 [true, false, true] := by
    refine in_lit (v := Value.bool) (T := 4) (arr := #[.bool true, .bool false, .bool true]) (fun _ => rfl) [true, false, true] rfl ?_ (fun _ _ => trivial) (by decide)
    rw [hW4, Below.heap_alloc _ _ _ (by simp; omega), Below.heap_alloc _ _ _ (by simp; omega), Below.heap_alloc _ _ _ (by simp)]
    exact new_block _ _ rfl
  have I4 : IdIn W4 (some ⟨w.heap.size + 1, 0, none⟩) 3 [1, 5, 9] := by
    refine in_lit (v := Value.int .u64) (T := 27) (arr := #[.int .u64 1, .int .u64 5, .int .u64 9]) (fun _ => rfl) [1, 5, 9] rfl ?_ (by simp [u64]) (by decide)
    rw [hW4, Below.heap_alloc _ _ _ (by simp), Below.heap_alloc _ _ _ (by simp)]
    exact new_block _ _ (by simp)
  have N4 : InIn W4 (some ⟨w.heap.size + 3, 0, none⟩) 3 [3, 4, 5] := by
    refine in_lit (v := Value.int .i64) (T := 3) (arr := #[.int .i64 3, .int .i64 4, .int .i64 5]) (fun _ => rfl) [3, 4, 5] rfl ?_ (by simp [i64]) (by decide)
    rw [hW4]
    exact new_block _ _ (by simp)
  have k2 : W4.heap[w.heap.size + 2]? = some (.cells #[.slice (some ⟨w.heap.size, 0, none⟩) 3 3, .slice (some ⟨w.heap.size + 1, 0, none⟩) 3 3] 25 (0, 0)) := by
    rw [hW4, Below.heap_alloc _ _ _ (by simp)]
    exact new_block _ _ (by simp)
  have c0 : W4.cell? ⟨w.heap.size + 2, 0, none⟩ = some (.slice (some ⟨w.heap.size, 0, none⟩) 3 3) := by simp [World.cell?, k2]
  have c1 : W4.cell? ⟨w.heap.size + 2, 1, none⟩ = some (.slice (some ⟨w.heap.size + 1, 0, none⟩) 3 3) := by simp [World.cell?, k2]
  clear k2
  have H4 : Hid (Below w.heap.size w W4 ∧ LvIn W4 (some ⟨w.heap.size, 0, none⟩) 3 [true, false, true] ∧ IdIn W4 (some ⟨w.heap.size + 1, 0, none⟩) 3 [1, 5, 9] ∧ InIn W4 (some ⟨w.heap.size + 3, 0, none⟩) 3 [3, 4, 5] ∧ W4.heap.size = w.heap.size + 4) := ⟨b4, L4, I4, N4, s4⟩
  have HC : Hid (W4.cell? ⟨w.heap.size + 2, 0, none⟩ = some (.slice (some ⟨w.heap.size, 0, none⟩) 3 3) ∧ W4.cell? ⟨w.heap.size + 2, 1, none⟩ = some (.slice (some ⟨w.heap.size + 1, 0, none⟩) 3 3)) := ⟨c0, c1⟩
  have hf : Hid (headI [true, false, true] [1, 2] = 2 ∧ rectI [true, false, true] [1, 5, 9] 9 1 0 = 0 ∧ intsB [2, 3, 4] [2, 3, 4] = true) := by unfold Hid; decide
  clear b4 s4 L4 I4 N4 c0 c1
  have fp := fun a c w => field_pred a c w
  go_enter Try.func7, Try.ntmps7
  go_wp2_with fail
  rw [← hW4]
  clear hW4
  refine (follow_any 2 _ _ _ 3 3 [3, 4, 5] _ (by simp [i64]) H4.out.2.2.2.1 (by omega) (by omega) (by simp)).mono ?_
  rintro e w1 ⟨a1, c1, rfl, hN, hc, hcm, _, hb⟩
  have hN' : InIn w1 a1 3 [2, 3, 4] := hN
  have H1 : Hid (Below W4.heap.size W4 w1 ∧ InIn w1 a1 3 [2, 3, 4]) := ⟨hb, hN'⟩
  have x0 := cell_grown HC.out.1 hb
  have x1 := cell_grown HC.out.2 hb
  have z1 : w.heap.size + 2 < w1.heap.size := by have := hb.size; have := H4.out.2.2.2.2; omega
  clear hN hN' hb
  obtain ⟨W5, hW5⟩ : ∃ W5, W5 = w1.alloc (.cells #[.int .i64 1, .int .i64 2] 3) := ⟨_, rfl⟩
  have b5 : Below w1.heap.size w1 W5 := by rw [hW5]; exact below_one _ _
  have N5 : InIn W5 (some ⟨w1.heap.size, 0, none⟩) 2 [1, 2] := by
    refine in_lit (v := Value.int .i64) (T := 3) (arr := #[.int .i64 1, .int .i64 2]) (fun _ => rfl) [1, 2] rfl ?_ (by simp [i64]) (by decide)
    rw [hW5]
    exact new_block _ _ rfl
  have H5 : Hid (Below W4.heap.size W4 W5 ∧ InIn W5 (some ⟨w1.heap.size, 0, none⟩) 2 [1, 2] ∧ InIn W5 a1 3 [2, 3, 4]) := ⟨H1.out.1.trans (b5.mono H1.out.1.size), N5, H1.out.2.below (Nat.le_refl _) b5⟩
  clear b5 N5
  go_wp2_with fail
  rw [← hW5]
  clear hW5
  refine (head_any _ _ _ _ _ _ _ _ _ _ _ _ H5.out.2.1 (H4.out.2.1.below (Nat.le_refl _) H5.out.1)).mono ?_
  rintro e w2 ⟨rfl, hb⟩
  rw [hf.out.1]
  have H2 : Hid (Below W4.heap.size W4 w2 ∧ InIn w2 a1 3 [2, 3, 4]) := ⟨H5.out.1.trans (hb.mono H5.out.1.size), H5.out.2.2.below (Nat.le_refl _) hb⟩
  clear hb
  have x0 := cell_grown HC.out.1 H2.out.1
  have x1 := cell_grown HC.out.2 H2.out.1
  have z2 : w.heap.size + 2 < w2.heap.size := by have := H2.out.1.size; have := H4.out.2.2.2.2; omega
  obtain ⟨W6, hW6⟩ : ∃ W6, W6 = w2.alloc (.cells #[.int .i64 2, .int .i64 3, .int .i64 4] 3) := ⟨_, rfl⟩
  have b6 : Below w2.heap.size w2 W6 := by rw [hW6]; exact below_one _ _
  have N6 : InIn W6 (some ⟨w2.heap.size, 0, none⟩) 3 [2, 3, 4] := by
    refine in_lit (v := Value.int .i64) (T := 3) (arr := #[.int .i64 2, .int .i64 3, .int .i64 4]) (fun _ => rfl) [2, 3, 4] rfl ?_ (by simp [i64]) (by decide)
    rw [hW6]
    exact new_block _ _ rfl
  have H6 : Hid (Below W4.heap.size W4 W6 ∧ InIn W6 (some ⟨w2.heap.size, 0, none⟩) 3 [2, 3, 4] ∧ InIn W6 a1 3 [2, 3, 4]) := ⟨H2.out.1.trans (b6.mono H2.out.1.size), N6, H2.out.2.below (Nat.le_refl _) b6⟩
  clear b6 N6
  go_wp2_with fail
  rw [← hW6]
  clear hW6
  refine (ints_any _ _ _ _ _ _ _ _ _ H6.out.2.2 H6.out.2.1).mono ?_
  rintro e w3 ⟨rfl, hb⟩
  rw [hf.out.2.2]
  have H3 : Hid (Below W4.heap.size W4 w3) := H6.out.1.trans (hb.mono H6.out.1.size)
  clear hb
  have x0 := cell_grown HC.out.1 H3.out
  have x1 := cell_grown HC.out.2 H3.out
  have z3 : w.heap.size + 2 < w3.heap.size := by have := H3.out.size; have := H4.out.2.2.2.2; omega
  go_wp2_with fail
  refine (rectify_any 9 1 0 _ _ _ _ _ _ _ _ _ _ _ _ (H4.out.2.1.below (Nat.le_refl _) H3.out) (H4.out.2.2.1.below (Nat.le_refl _) H3.out) (by simp [i64]) (by simp [i64])).mono ?_
  rintro e w4 ⟨rfl, hb⟩
  rw [hf.out.2.1]
  go_wp2
  go_ret
  exact ⟨rfl, H4.out.1.trans ((H3.out.trans (hb.mono H3.out.size)).mono H4.out.1.size)⟩
end Go.Proofs.Ythniahbbnknkoaa
