/- Layer 10's answers that the document fixes. -/
import Derived.Test.YtgpamiggdeopbabChNew
import Derived.Test.YtgpamiggdeopbabPrInts
namespace Go.Proofs.Ytgpamiggdeopbab
open Go.ChangeShapes Go.WideShapes Go.ChangeAt Go.RowKit Go.Deep
set_option linter.unusedVariables false

def ids4 : List Int := [10, 20, 30, 40]
def ringA : Rg := newTo ids4 [0, 1, 2, 3] 4
def ringB : Rg := ringA.join 4 25 0
def ringC : Rg := ringB.stab 4
def ringD : Rg := ringC.stab 1
theorem fix1 : ringA.joinC 4 25 0 = 0 := by kernel_rfl
theorem fix2 : ringB.stabC 4 = 0 := by kernel_rfl
theorem fix3 : ringC.stabC 1 = 0 := by kernel_rfl
theorem fix4 : ringD.kn 1 = some ⟨20, 0, [4, 2, 3]⟩ := by kernel_rfl
theorem fix5 : ringD.kn 2 = some ⟨30, 4, [3, 0, 1]⟩ := by kernel_rfl
theorem fix6 : ringD.lives 4 = true := by kernel_rfl
theorem fix7 : ringD.idOf 4 = 25 := by kernel_rfl
theorem rise_same : ∀ (s t : List Int), s.Pairwise (· < ·) → t.Pairwise (· < ·) → (∀ x, x ∈ s ↔ x ∈ t) → s = t
  | [], [], _, _, _ => rfl
  | [], b :: t, _, _, h => by have := (h b).2 (by simp); simp at this
  | a :: s, [], _, _, h => by have := (h a).1 (by simp); simp at this
  | a :: s, b :: t, hs, ht, h => by
    have hs1 := List.pairwise_cons.1 hs
    have ht1 := List.pairwise_cons.1 ht
    have hab : a = b := by
      have h1 := (h a).1 (by simp)
      have h2 := (h b).2 (by simp)
      rcases List.mem_cons.1 h1 with e | m
      · exact e
      · rcases List.mem_cons.1 h2 with e | m2
        · exact e.symm
        · have := ht1.1 a m; have := hs1.1 b m2; omega
    subst hab
    congr 1
    refine rise_same s t hs1.2 ht1.2 (fun x => ?_)
    have hx := h x
    simp only [List.mem_cons] at hx
    constructor
    · intro m
      have := hs1.1 x m
      rcases hx.1 (.inr m) with e | m2
      · omega
      · exact m2
    · intro m
      have := ht1.1 x m
      rcases hx.2 (.inr m) with e | m2
      · omega
      · exact m2


/-- A list written out, in a block of its own. -/
theorem in_list {α : Type} {enc : α → List Value} {ok : α → Prop} {d : α} {v : α → Value} (hv : ∀ x, enc x = [v x]) {w : World} {g : Nat} {T : TypeId} (l : List α) {arr : Array Value} (hl : l.map v = arr.toList) (hg : w.heap[g]? = some (.cells arr T (0, 0))) (hok : ∀ x ∈ l, ok x) (hm : l.length ≤ 9223372036854775807) :
    InRow 1 enc ok d w (some ⟨g, 0, none⟩) l.length l := by
  refine ⟨rfl, hm, .inr ⟨g, 0, rfl, ?_, fun i hi => ?_⟩⟩
  · rcases Nat.lt_or_ge g w.heap.size with q | q
    · exact q
    · rw [Array.getElem?_eq_none q] at hg; cases hg
  · have e0 : l.getD i d = l[i] := by simp [List.getD, hi]
    refine ⟨by rw [e0]; exact hok _ (List.getElem_mem _), fun j hj => ?_⟩
    obtain rfl : j = 0 := by omega
    have e1 : arr[i]? = some (v l[i]) := by rw [← Array.getElem?_toList, ← hl]; simp [hi]
    rw [e0, hv]
    simp [World.cell?, hg, e1]

theorem base_r (w : World) : Calls Try.prog 6 #[] w fun e w' => e = .returned (.slice (some ⟨w.heap.size, 0, none⟩) 4 4) ∧ IdIn w' (some ⟨w.heap.size, 0, none⟩) 4 ids4 ∧ Below w.heap.size w w' := by
  have HI : Hid (IdIn (w.alloc (.cells #[.int .u64 10, .int .u64 20, .int .u64 30, .int .u64 40] 23)) (some ⟨w.heap.size, 0, none⟩) 4 ids4) :=
    in_list (v := Value.int .u64) (T := 23) (arr := #[.int .u64 10, .int .u64 20, .int .u64 30, .int .u64 40]) (fun _ => rfl) ids4 rfl (heap_alloc_new w _) (by simp [ids4, u64]) (by decide)
  go_enter Try.func6, Try.ntmps6
  go_wp2
  go_ret
  exact ⟨rfl, HI.out, below_one _ _⟩

/-- New of the four places. -/
theorem new_base (a : Option Addr) (cap : Nat) (w : World) (h : IdIn w a 4 ids4) :
    Calls Try.prog 5 #[.slice a 4 cap] w fun e w' => ∃ r gp gk, e = .returned (.tuple #[.pointer (some ⟨r, 0, none⟩), .nilIface]) ∧ RingAt w' r gp gk ringA ∧ w.heap.size ≤ r ∧ w.heap.size ≤ gp ∧ w.heap.size ≤ gk ∧ Below w.heap.size w w' := by
  refine (new_four a cap ids4 w h).mono ?_
  rintro e w' ⟨h | h, hb⟩
  · obtain ⟨S, hp, hm, hl, _⟩ := h
    have e1 : S = ids4 := rise_same S ids4 hp (by simp [ids4]) hm
    rw [e1] at hl
    exact absurd hl (by decide)
  · obtain ⟨S, r, gp, gk, hp, hm, hl, he, hr, h1, h2, h3⟩ := h
    have e1 : S = ids4 := rise_same S ids4 hp (by simp [ids4]) hm
    rw [e1] at hr
    exact ⟨r, gp, gk, he, hr, h1, h2, h3, hb⟩

set_option maxRecDepth 100000 in
set_option maxHeartbeats 4000000 in
theorem awake10_any (w : World) : Calls Try.prog 7 #[] w fun e w' => e = .returned (.bool true) ∧ Below w.heap.size w w' := by
  go_enter Try.func7, Try.ntmps7
  go_wp2_with fail
  refine (base_r w).mono ?_
  rintro e w1 ⟨rfl, h1, b1⟩
  have HI : Hid (IdIn w1 (some ⟨w.heap.size, 0, none⟩) 4 ids4 ∧ Below w.heap.size w w1) := ⟨h1, b1⟩
  clear h1 b1
  go_wp2_with fail
  refine (new_base _ _ _ HI.out.1).mono ?_
  rintro e w2 ⟨r, gp, gk, rfl, hr, l1, l2, l3, b2⟩
  have HA : Hid (RingAt w2 r gp gk ringA ∧ w1.heap.size ≤ gp ∧ w1.heap.size ≤ gk ∧ Below w1.heap.size w1 w2) := ⟨hr, l2, l3, b2⟩
  clear hr l1 l2 l3 b2
  go_wp2_with fail
  refine (join_r r gp gk ringA 4 25 0 _ HA.out.1 (by simp [u64]) (by simp [i64])).mono ?_
  rintro e w3 ⟨rfl, h3, k3⟩
  rw [show errV (ringA.joinC 4 25 0) = .nilIface from congrArg errV fix1]
  have HB : Hid (RingAt w3 r gp gk ringB ∧ Kp w2 w3 gp gk) := ⟨h3, k3⟩
  clear h3 k3
  go_wp2_with fail
  refine (stab_r r gp gk ringB 4 _ HB.out.1 (by simp [i64])).mono ?_
  rintro e w4 ⟨rfl, h4, k4⟩
  rw [show errV (ringB.stabC 4) = .nilIface from congrArg errV fix2]
  have HC : Hid (RingAt w4 r gp gk ringC ∧ Kp w2 w4 gp gk) := ⟨h4, HB.out.2.trans k4⟩
  clear h4 k4
  go_wp2_with fail
  refine (stab_r r gp gk ringC 1 _ HC.out.1 (by simp [i64])).mono ?_
  rintro e w5 ⟨rfl, h5, k5⟩
  rw [show errV (ringC.stabC 1) = .nilIface from congrArg errV fix3]
  have HD : Hid (RingAt w5 r gp gk ringD ∧ Below w.heap.size w w5) := by
    have kk := HC.out.2.trans k5
    have bb := HI.out.2.size
    exact ⟨h5, (HI.out.2.trans (HA.out.2.2.2.mono bb)).trans (kk.below (by have := HA.out.2.1; omega) (by have := HA.out.2.2.1; omega) (by have := HA.out.2.2.2.size; omega))⟩
  clear h5 k5
  go_wp2_with fail
  refine (peer_some r gp gk ringD 1 ⟨20, 0, [4, 2, 3]⟩ _ HD.out.1 fix4 (by simp)).mono ?_
  rintro e w6 ⟨a6, l6, c6, rfl, h6, b6⟩
  have hl6 : l6 = 3 := h6.row.1.symm
  subst hl6
  have H6 : Hid (RingAt w6 r gp gk ringD ∧ Below w.heap.size w w6 ∧ InIn w6 a6 3 [4, 2, 3]) := ⟨HD.out.1.below b6, HD.out.2.trans (b6.mono HD.out.2.size), h6.row⟩
  clear h6 b6
  obtain ⟨W7, hW7⟩ : ∃ W7, W7 = w6.alloc (.cells #[.int .u64 20, .int .i64 0, .slice a6 3 c6] 40) := ⟨_, rfl⟩
  have b7 : Below w6.heap.size w6 W7 := by rw [hW7]; exact below_one _ _
  have H7 : Hid (RingAt W7 r gp gk ringD ∧ Below w.heap.size w W7 ∧ InIn W7 a6 3 [4, 2, 3] ∧ W7.cell? ⟨w6.heap.size, 2, none⟩ = some (.slice a6 3 c6)) := ⟨H6.out.1.below b7, H6.out.2.1.trans (b7.mono H6.out.2.1.size), H6.out.2.2.below (Nat.le_refl _) b7, by rw [hW7]; simp⟩
  clear b7
  go_wp2_with fail
  rw [← hW7]
  clear hW7
  refine (peer_some r gp gk ringD 2 ⟨30, 4, [3, 0, 1]⟩ _ H7.out.1 fix5 (by simp)).mono ?_
  rintro e w8 ⟨a8, l8, c8, rfl, h8, b8⟩
  obtain ⟨W9, hW9⟩ : ∃ W9, W9 = w8.alloc (.cells #[.int .u64 30, .int .i64 4, .slice a8 l8 c8] 40) := ⟨_, rfl⟩
  have b9 : Below W7.heap.size W7 W9 := by rw [hW9]; exact b8.trans ((below_one _ _).mono b8.size)
  have x0 := cell_grown H7.out.2.2.2 b9
  have x1 : W9.cell? ⟨w8.heap.size, 1, none⟩ = some (.int .i64 4) := by rw [hW9]; simp
  have z0 : w6.heap.size < W9.heap.size := cell_block x0
  have z1 : w8.heap.size < W9.heap.size := cell_block x1
  have H9 : Hid (RingAt W9 r gp gk ringD ∧ Below w.heap.size w W9 ∧ InIn W9 a6 3 [4, 2, 3]) := ⟨H7.out.1.below b9, H7.out.2.1.trans (b9.mono H7.out.2.1.size), H7.out.2.2.1.below (Nat.le_refl _) b9⟩
  clear h8 b8 b9
  obtain ⟨W10, hW10⟩ : ∃ W10, W10 = W9.alloc (.cells #[.int .i64 4, .int .i64 2, .int .i64 3] 3) := ⟨_, rfl⟩
  have b10 : Below W9.heap.size W9 W10 := by rw [hW10]; exact below_one _ _
  have N10 : InIn W10 (some ⟨W9.heap.size, 0, none⟩) 3 [4, 2, 3] := in_list (v := Value.int .i64) (T := 3) (arr := #[.int .i64 4, .int .i64 2, .int .i64 3]) (fun _ => rfl) [4, 2, 3] rfl (by rw [hW10]; exact heap_alloc_new _ _) (by simp [i64]) (by decide)
  have H10 : Hid (RingAt W10 r gp gk ringD ∧ Below w.heap.size w W10 ∧ InIn W10 a6 3 [4, 2, 3] ∧ InIn W10 (some ⟨W9.heap.size, 0, none⟩) 3 [4, 2, 3] ∧ W10.cell? ⟨w8.heap.size, 1, none⟩ = some (.int .i64 4)) := ⟨H9.out.1.below b10, H9.out.2.1.trans (b10.mono H9.out.2.1.size), H9.out.2.2.below (Nat.le_refl _) b10, N10, cell_grown x1 b10⟩
  clear b10 N10
  go_upto_region 6 with fail
  rw [← hW9]
  clear hW9
  go_wp2_with fail
  rw [← hW10]
  clear hW10 x0 x1
  refine (ints_any _ _ _ _ _ _ _ _ _ H10.out.2.2.1 H10.out.2.2.2.1).mono ?_
  rintro e w11 ⟨rfl, b11⟩
  rw [show intsB [4, 2, 3] [4, 2, 3] = true by decide]
  have H11 : Hid (RingAt w11 r gp gk ringD ∧ Below w.heap.size w w11) := ⟨H10.out.1.below b11, H10.out.2.1.trans (b11.mono H10.out.2.1.size)⟩
  have x1 := cell_grown H10.out.2.2.2.2 b11
  have z1 := cell_block x1
  clear b11
  go_wp2_with (first
    | (go_at_call 12; refine (lives_r _ _ _ _ _ _ H11.out.1).mono ?_; rintro e w12 ⟨rfl, b12⟩; rw [fix6])
    | (go_at_call 22; refine (id_r _ _ _ _ _ _ (H11.out.1.below b12)).mono ?_; rintro e w13 ⟨rfl, rfl⟩; rw [fix7]))
  go_ret
  exact ⟨rfl, H11.out.2.trans (b12.mono H11.out.2.size)⟩
end Go.Proofs.Ytgpamiggdeopbab
