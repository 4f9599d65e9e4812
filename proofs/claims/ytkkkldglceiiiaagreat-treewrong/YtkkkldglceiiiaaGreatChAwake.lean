/- Layer 10's answers that the document fixes. -/
import Derived.Test.YtkkkldglceiiiaaGreatChNew
import Derived.Test.YtkkkldglceiiiaaGreatPrInts
namespace Go.Proofs.YtkkkldglceiiiaaGreat
open Go.ChangeShapes Go.WideShapes Go.ChangeAt Go.RowKit Go.Deep
set_option linter.unusedVariables false

def ids4 : List Int := [10, 20, 30, 40]
def ringA : Rg := newTo ids4 [0, 1, 2, 3] 4
def ringB : Rg := ringA.join 4 25 0
def ringC : Rg := ringB.stab 4
def ringD : Rg := ringC.stab 1
theorem fix1 : ringA.joinC 4 25 0 = 0 := by kernel_rfl
theorem fix2 : ringB.stabC 4 = 0 := by kernel_rfl
theorem fix3 : ringC.stabC 1 = 0 := by kernel_rfl
theorem fix4 : ringD.kn 1 = some ⟨20, 0, [4, 2, 3]⟩ := by kernel_rfl
theorem fix5 : ringD.kn 2 = some ⟨30, 4, [3, 0, 1]⟩ := by kernel_rfl
theorem fix6 : ringD.lives 4 = true := by kernel_rfl
theorem fix7 : ringD.idOf 4 = 25 := by kernel_rfl
theorem rise_same : ∀ (s t : List Int), s.Pairwise (· < ·) → t.Pairwise (· < ·) → (∀ x, x ∈ s ↔ x ∈ t) → s = t
  | [], [], _, _, _ => rfl
  | [], b :: t, _, _, h => by have := (h b).2 (by simp); simp at this
  | a :: s, [], _, _, h => by have := (h a).1 (by simp); simp at this
  | a :: s, b :: t, hs, ht, h => by
    have hs1 := List.pairwise_cons.1 hs
    have ht1 := List.pairwise_cons.1 ht
    have hab : a = b := by
      have h1 := (h a).1 (by simp)
      have h2 := (h b).2 (by simp)
      rcases List.mem_cons.1 h1 with e | m
      · exact e
      · rcases List.mem_cons.1 h2 with e | m2
        · exact e.symm
        · have := ht1.1 a m; have := hs1.1 b m2; omega
    subst hab
    congr 1
    refine rise_same s t hs1.2 ht1.2 (fun x => ?_)
    have hx := h x
    simp only [List.mem_cons] at hx
    constructor
    · intro m
      have := hs1.1 x m
      rcases hx.1 (.inr m) with e | m2
      · omega
      · exact m2
    · intro m
      have := ht1.1 x m
      rcases hx.2 (.inr m) with e | m2
      · omega
      · exact m2


/-- A list written out, in a block of its own. -/
theorem in_list {α : Type} {enc : α → List Value} {ok : α → Prop} {d : α} {v : α → Value} (hv : ∀ x, enc x = [v x]) {w : World} {g : Nat} {T : TypeId} (l : List α) {arr : Array Value} (hl : l.map v = arr.toList) (hg : w.heap[g]? = some (.cells arr T (0, 0))) (hok : ∀ x ∈ l, ok x) (hm : l.length ≤ 9223372036854775807) :
    InRow 1 enc ok d w (some ⟨g, 0, none⟩) l.length l := by
  refine ⟨rfl, hm, .inr ⟨g, 0, rfl, ?_, fun i hi => ?_⟩⟩
  · rcases Nat.lt_or_ge g w.heap.size with q | q
    · exact q
    · rw [Array.getElem?_eq_none q] at hg; cases hg
  · have e0 : l.getD i d = l[i] := by simp [List.getD, hi]
    refine ⟨by rw [e0]; exact hok _ (List.getElem_mem _), fun j hj => ?_⟩
    obtain rfl : j = 0 := by omega
    have e1 : arr[i]? = some (v l[i]) := by rw [← Array.getElem?_toList, ← hl]; simp [hi]
    rw [e0, hv]
    simp [World.cell?, hg, e1]

theorem base_r (w : World) : Calls Tryz.prog 5 #[] w fun e w' => e = .returned (.slice (some ⟨w.heap.size, 0, none⟩) 4 4) ∧ IdIn w' (some ⟨w.heap.size, 0, none⟩) 4 ids4 ∧ Below w.heap.size w w' := by
  have HI : Hid (IdIn (w.alloc (.cells #[.int .u64 10, .int .u64 20, .int .u64 30, .int .u64 40] 36)) (some ⟨w.heap.size, 0, none⟩) 4 ids4) :=
    in_list (v := Value.int .u64) (T := 36) (arr := #[.int .u64 10, .int .u64 20, .int .u64 30, .int .u64 40]) (fun _ => rfl) ids4 rfl (heap_alloc_new w _) (by simp [ids4, u64]) (by decide)
  go_enter Tryz.func5, Tryz.ntmps5
  go_wp2
  go_ret
  exact ⟨rfl, HI.out, below_one _ _⟩

/-- New of the four places. -/
theorem new_base (a : Option Addr) (cap : Nat) (w : World) (h : IdIn w a 4 ids4) :
    Calls Tryz.prog 4 #[.slice a 4 cap] w fun e w' => ∃ r gp gk, e = .returned (.tuple #[.pointer (some ⟨r, 0, none⟩), .nilIface]) ∧ RingAt w' r gp gk ringA ∧ w.heap.size ≤ r ∧ w.heap.size ≤ gp ∧ w.heap.size ≤ gk ∧ Below w.heap.size w w' := by
  refine (new_four a cap ids4 w h).mono ?_
  rintro e w' ⟨h | h, hb⟩
  · obtain ⟨S, hp, hm, hl, _⟩ := h
    have e1 : S = ids4 := rise_same S ids4 hp (by simp [ids4]) hm
    rw [e1] at hl
    exact absurd hl (by decide)
  · obtain ⟨S, r, gp, gk, hp, hm, hl, he, hr, h1, h2, h3⟩ := h
    have e1 : S = ids4 := rise_same S ids4 hp (by simp [ids4]) hm
    rw [e1] at hr
    exact ⟨r, gp, gk, he, hr, h1, h2, h3, hb⟩

end Go.Proofs.YtkkkldglceiiiaaGreat
