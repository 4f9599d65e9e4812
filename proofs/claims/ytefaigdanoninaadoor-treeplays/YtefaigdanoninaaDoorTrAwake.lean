/- wigwaglaw20.awake. -/
import Derived.Test.YtefaigdanoninaaDoorTrLst
import Derived.Test.YtefaigdanoninaaDoorPrAwake
namespace Go.Proofs.YtefaigdanoninaaDoor
open Go.ChangeShapes Go.WideShapes Go.ChangeAt Go.RowKit Go.Deep
open Go.ChangeMaps (setBlock)
set_option linter.unusedVariables false

def trA : Tr := ⟨2, [(3, 0), (0, 1), (1, 2)]⟩
theorem treeA : treeOf (nxL [1, 2, 2, 0]) [3, 1] = (0, trA) := by rfl
theorem depA : trA.depth 3 = 3 := by rfl
theorem rising_is : ∀ (s t : List Int), s.Pairwise (· < ·) → t.Pairwise (· < ·) → (∀ x, x ∈ s ↔ x ∈ t) → s = t
  | [], [], _, _, _ => rfl
  | [], b :: t, _, _, h => by have := (h b).2 (by simp); simp at this
  | a :: s, [], _, _, h => by have := (h a).1 (by simp); simp at this
  | a :: s, b :: t, hs, ht, h => by
    have hs1 := List.pairwise_cons.1 hs
    have ht1 := List.pairwise_cons.1 ht
    have hab : a = b := by
      have h1 := (h a).1 (by simp)
      have h2 := (h b).2 (by simp)
      rcases List.mem_cons.1 h1 with e | m
      · exact e
      · rcases List.mem_cons.1 h2 with e | m2
        · exact e.symm
        · have := ht1.1 a m; have := hs1.1 b m2; omega
    subst hab
    congr 1
    refine rising_is s t hs1.2 ht1.2 (fun x => ?_)
    have hx := h x
    simp only [List.mem_cons] at hx
    constructor
    · intro m
      have := hs1.1 x m
      rcases hx.1 (.inr m) with e | m2
      · omega
      · exact m2
    · intro m
      have := ht1.1 x m
      rcases hx.2 (.inr m) with e | m2
      · omega
      · exact m2
theorem intsA1 : intsB [0, 1, 2, 3] [0, 1, 2, 3] = true := by rfl
theorem intsA2 : intsB [1] [1] = true := by rfl

set_option maxRecDepth 100000 in
set_option maxHeartbeats 4000000 in
theorem awake20_any (w : World) : Calls Tryd.prog 6 #[] w fun e w' => e = .returned (.bool true) ∧ Below w.heap.size w w' := by
  obtain ⟨W1, hW1⟩ : ∃ W, W = w.alloc (.cells #[.int .i64 1, .int .i64 2, .int .i64 2, .int .i64 0] 3) := ⟨_, rfl⟩
  obtain ⟨W2, hW2⟩ : ∃ W, W = W1.alloc (.cells #[.int .i64 3, .int .i64 1] 3) := ⟨_, rfl⟩
  have b1 : Below w.heap.size w W1 := by rw [hW1]; exact below_one _ _
  have b2 : Below W1.heap.size W1 W2 := by rw [hW2]; exact below_one _ _
  have s1 : W1.heap.size = w.heap.size + 1 := by rw [hW1]; simp
  have i1 : InIn W1 (some ⟨w.heap.size, 0, none⟩) 4 [1, 2, 2, 0] := in_lit (v := Value.int .i64) (T := 3) (arr := #[.int .i64 1, .int .i64 2, .int .i64 2, .int .i64 0]) (fun _ => rfl) [1, 2, 2, 0] rfl (by rw [hW1]; exact heap_alloc_new w _) (by simp [i64]) (by decide)
  have i2 : InIn W2 (some ⟨w.heap.size + 1, 0, none⟩) 2 [3, 1] := in_lit (v := Value.int .i64) (T := 3) (arr := #[.int .i64 3, .int .i64 1]) (fun _ => rfl) [3, 1] rfl (by rw [hW2, ← s1]; exact heap_alloc_new W1 _) (by simp [i64]) (by decide)
  have hO := tree_of W2 30 (.slice (some ⟨w.heap.size, 0, none⟩) 4 4) 69 (nxL [1, 2, 2, 0]) ⟨#[103]⟩ (some ⟨w.heap.size + 1, 0, none⟩) 2 2 [3, 1] (by decide) i2 (wk_list W2 _ _ _ _ _ (i1.below (Nat.le_refl _) b2) (by decide)) (nxL_neg _) (by decide)
  rw [treeA] at hO
  have HO : Hid _ := hO
  have HB : Hid (Below w.heap.size w W2) := b1.trans (b2.mono b1.size)
  clear b1 b2 i1 i2 hO s1
  go_enter Tryd.func6, Tryd.ntmps6
  go_wp2_with fail
  rw [← hW1, ← hW2]
  refine Calls.mono HO.out ?_
  clear HO hW1 hW2
  rintro e w3 ⟨h3, b3⟩
  rcases h3 with ⟨h0, _⟩ | ⟨_, g, rfl, hup⟩
  · exact absurd rfl h0
  simp only [trA] at hup ⊢
  have H3 : Hid (UpAt w3 g trA.up ∧ Below w.heap.size w w3) := ⟨hup, HB.out.trans (b3.mono HB.out.size)⟩
  clear hup b3 HB
  have HI : Hid ((∀ k ∈ trA.up.map (·.1), i64 k) ∧ TrOk (nxL [1, 2, 2, 0]) trA) := ⟨by simp [trA, i64], by have := tree_ok (nxL [1, 2, 2, 0]) [3, 1]; rw [treeA] at this; exact this⟩
  obtain ⟨W4, hW4⟩ : ∃ W, W = w3.alloc (.cells #[.int .i64 2, .map (some g)] 25) := ⟨_, rfl⟩
  obtain ⟨q, hq⟩ : ∃ q, q = w3.heap.size := ⟨_, rfl⟩
  have b4 : Below w3.heap.size w3 W4 := by rw [hW4]; exact below_one _ _
  have c0 : W4.cell? ⟨q, 0, none⟩ = some (.int .i64 2) := by rw [hW4, hq]; exact World.cell?_alloc_new ..
  have c1 : W4.cell? ⟨q, 1, none⟩ = some (.map (some g)) := by rw [hW4, hq]; simp
  have H4 : Hid (UpAt W4 g trA.up ∧ Below w.heap.size w W4) := ⟨H3.out.1.below b4, H3.out.2.trans (b4.mono H3.out.2.size)⟩
  clear b4 H3
  have cl := cell_block c0
  go_upto_region 2 with fail
  rw [← hW4]
  try rw [← hq]
  clear hW4 hq
  go_wp2_with fail
  refine (depth_any trA g 3 _ H4.out.1 (by decide)).mono ?_
  rintro e w5 ⟨rfl, b5⟩
  rw [depA]
  replace c0 := cell_grown c0 b5
  replace c1 := cell_grown c1 b5
  replace cl := cell_block c0
  have H5 : Hid (UpAt w5 g trA.up ∧ Below w.heap.size w w5) := ⟨H4.out.1.below b5, H4.out.2.trans (b5.mono H4.out.2.size)⟩
  clear b5 H4
  go_wp2_with fail
  refine (nodes_t (nxL [1, 2, 2, 0]) trA g _ H5.out.1 (by decide) HI.out.1 (by simp [trA, i64]) HI.out.2).mono ?_
  rintro e w6 ⟨v, l, rfl, hs, hp, hm, b6⟩
  have hl : l = [0, 1, 2, 3] := rising_is _ _ hp (by simp) (fun x => by
    rw [hm]
    unfold Tr.inT
    simp only [trA, lookI]
    constructor
    · rintro (⟨_, rfl⟩ | ⟨v, hv⟩)
      · simp
      · repeat (split at hv; (rename_i q; simp [← q]))
        cases hv
    · intro hx
      simp at hx
      rcases hx with rfl | rfl | rfl | rfl
      · exact .inr ⟨1, rfl⟩
      · exact .inr ⟨2, rfl⟩
      · exact .inl ⟨by decide, rfl⟩
      · exact .inr ⟨0, rfl⟩)
  subst hl
  obtain ⟨a6, k6, rfl, hin, _⟩ := hs.ex
  have H6 : Hid (UpAt w6 g trA.up ∧ Below w.heap.size w w6 ∧ InIn w6 a6 4 [0, 1, 2, 3]) := ⟨H5.out.1.below b6, H5.out.2.trans (b6.mono H5.out.2.size), hin⟩
  replace c0 := cell_grown c0 b6
  replace c1 := cell_grown c1 b6
  replace cl := cell_block c0
  clear b6 H5 hin hp hm hs
  go_wp2_with fail
  refine (ints_any a6 4 k6 [0, 1, 2, 3] (some ⟨w6.heap.size, 0, none⟩) 4 4 [0, 1, 2, 3] _ (H6.out.2.2.below (Nat.le_refl _) (below_one _ _)) (in_lit (v := Value.int .i64) (T := 3) (arr := #[.int .i64 0, .int .i64 1, .int .i64 2, .int .i64 3]) (fun _ => rfl) [0, 1, 2, 3] rfl (heap_alloc_new w6 _) (by simp [i64]) (by decide))).mono ?_
  rintro e w7 ⟨rfl, b7⟩
  rw [intsA1]
  have b67 : Below w6.heap.size w6 w7 := (below_one _ _).trans (b7.mono (by simp))
  have H7 : Hid (UpAt w7 g trA.up ∧ Below w.heap.size w w7) := ⟨H6.out.1.below b67, H6.out.2.1.trans (b67.mono H6.out.2.1.size)⟩
  replace c0 := cell_grown c0 b67
  replace c1 := cell_grown c1 b67
  replace cl := cell_block c0
  clear b7 b67 H6
  go_wp2_with fail
  refine (children_t trA g 2 _ H7.out.1 (by decide) HI.out.1).mono ?_
  rintro e w8 ⟨v, l, rfl, hs, hp, hm, b8⟩
  have hl : l = [1] := rising_is _ _ hp (by simp) (fun x => by
    rw [hm]
    simp only [trA, lookI]
    constructor
    · intro hv
      split at hv
      · cases hv
      · split at hv
        · cases hv
        · split at hv
          · rename_i q; simp [← q]
          · cases hv
    · intro hx
      simp at hx
      subst hx
      rfl)
  subst hl
  obtain ⟨a8, k8, rfl, hin, _⟩ := hs.ex
  have H8 : Hid (Below w.heap.size w w8 ∧ InIn w8 a8 1 [1]) := ⟨H7.out.2.trans (b8.mono H7.out.2.size), hin⟩
  clear b8 H7 hin hp hm hs
  go_wp2_with fail
  refine (ints_any a8 1 k8 [1] (some ⟨w8.heap.size, 0, none⟩) 1 1 [1] _ (H8.out.2.below (Nat.le_refl _) (below_one _ _)) (in_lit (v := Value.int .i64) (T := 3) (arr := #[.int .i64 1]) (fun _ => rfl) [1] rfl (heap_alloc_new w8 _) (by simp [i64]) (by decide))).mono ?_
  rintro e w9 ⟨rfl, b9⟩
  rw [intsA2]
  have b89 : Below w8.heap.size w8 w9 := (below_one _ _).trans (b9.mono (by simp))
  go_wp2
  go_ret
  exact ⟨rfl, H8.out.1.trans (b89.mono H8.out.1.size)⟩
end Go.Proofs.YtefaigdanoninaaDoor
