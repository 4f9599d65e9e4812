/- wigwagref01.Owner: of places the first to which it is least far; of rising places that is ring.Owner's. -/
import Derived.Test.YtkmlebikcllkpaaRefSorted
import Derived.Test.YtkmlebikcllkpaaRefRing
import Derived.BigQuiet
namespace Go.Proofs.Ytkmlebikcllkpaa
open Go.ChangeShapes Go.WideShapes Go.ChangeAt Go.RowKit
set_option linter.unusedVariables false

def InU (l : List Int) : Prop := ∀ y, y ∈ l → 0 ≤ y ∧ y ≤ 18446744073709551615
theorem inU_getD {l : List Int} (h : InU l) (j : Nat) : 0 ≤ l.getD j 0 ∧ l.getD j 0 ≤ 18446744073709551615 := by
  by_cases q : j < l.length
  · rw [List.getD_eq_getElem?_getD, List.getElem?_eq_getElem q]; exact h _ (List.getElem_mem _)
  · rw [List.getD_eq_getElem?_getD, List.getElem?_eq_none (by omega)]; simp

theorem below_drewN (B : Nat) (w : World) (n : Nat) : Below B w (w.drewN n) := ⟨rfl, rfl, rfl, Nat.le_refl _, fun _ _ => rfl⟩

/-- Of the first j the first that is least far. -/
def Best (l : List Int) (x : Int) (j : Nat) (b : Int) : Prop :=
  (j = 0 ∧ b = -1) ∨ ∃ m : Nat, b = m ∧ m < j ∧ (∀ i, i < m → dist x (l.getD m 0) < dist x (l.getD i 0)) ∧ (∀ i, i < j → dist x (l.getD m 0) ≤ dist x (l.getD i 0))
theorem best_start (l : List Int) (x : Int) : Best l x 0 (-1) := .inl ⟨rfl, rfl⟩
theorem best_first (l : List Int) (x : Int) : Best l x 1 0 :=
  .inr ⟨0, rfl, Nat.zero_lt_one, fun i hi => by omega, fun i hi => by obtain rfl : i = 0 := by omega
                                                                      exact Int.le_refl _⟩
theorem best_less {l : List Int} {x : Int} {j m : Nat} (h2 : ∀ i, i < j → dist x (l.getD m 0) ≤ dist x (l.getD i 0)) (hd : dist x (l.getD j 0) < dist x (l.getD m 0)) : Best l x (j + 1) j := by
  refine .inr ⟨j, rfl, by omega, fun i hi => ?_, fun i hi => ?_⟩
  · have := h2 i hi; omega
  · by_cases e : i = j
    · subst e; exact Int.le_refl _
    · have := h2 i (by omega); omega
theorem best_stay {l : List Int} {x : Int} {j m : Nat} (hm : m < j) (h1 : ∀ i, i < m → dist x (l.getD m 0) < dist x (l.getD i 0)) (h2 : ∀ i, i < j → dist x (l.getD m 0) ≤ dist x (l.getD i 0)) (hd : ¬ dist x (l.getD j 0) < dist x (l.getD m 0)) : Best l x (j + 1) m := by
  refine .inr ⟨m, rfl, by omega, h1, fun i hi => ?_⟩
  by_cases e : i = j
  · subst e; omega
  · exact h2 i (by omega)

theorem rising_getD {l : List Int} (hp : l.Pairwise (· < ·)) (i j : Nat) (hij : i < j) (hj : j < l.length) : l.getD i 0 < l.getD j 0 := by
  have q := List.pairwise_iff_getElem.1 hp i j (by omega) hj hij
  rw [List.getD_eq_getElem?_getD, List.getElem?_eq_getElem (by omega), List.getD_eq_getElem?_getD, List.getElem?_eq_getElem hj]
  exact q
theorem best_owner {l : List Int} {x b : Int} (hp : l.Pairwise (· < ·)) (hu : InU l) (hx : 0 ≤ x ∧ x ≤ 18446744073709551615) (h : Best l x l.length b) : b = ownerN l x := by
  rcases h with ⟨h0, rfl⟩ | ⟨m, rfl, hm, h1, h2⟩
  · rw [List.eq_nil_of_length_eq_zero h0]; rfl
  · have hmr := inU_getD hu m
    by_cases hge : x ≤ l.getD m 0
    · refine (owner_hit l x m hm (fun j hj => ?_) hge).symm
      have a := h1 j hj
      have b := rising_getD hp j m hj hm
      have c := inU_getD hu j
      unfold dist at a
      omega
    · have hall : ∀ j, j < l.length → l.getD j 0 < x := by
        intro j hj
        have a := h2 j hj
        have c := inU_getD hu j
        unfold dist at a
        omega
      have h0 : m = 0 := by
        rcases Nat.eq_zero_or_pos m with q | q
        · exact q
        · have a := h1 0 q
          have b := rising_getD hp 0 m q hm
          have c := inU_getD hu 0
          have d := hall 0 (by omega)
          unfold dist at a
          omega
      subst h0
      exact (owner_miss l x (by omega) hall).symm

set_option maxHeartbeats 2000000 in
theorem refowner_any (a : Option Addr) (n cap : Nat) (l : List Int) (x : Int) (w : World) (h : IdsAt w a n l) (hn : n ≤ 60) (hu : InU l) (hx : 0 ≤ x ∧ x ≤ 18446744073709551615) :
    Calls Try.prog 25 #[.slice a n cap, .int .u64 x] w fun e w' => ∃ b, e = .returned (.int .i64 b) ∧ Below w.heap.size w w' ∧ Best l x l.length b := by
  have H0 : Hid (IdsAt w a n l ∧ InU l ∧ 0 ≤ x ∧ x ≤ 18446744073709551615) := ⟨h, hu, hx.1, hx.2⟩
  clear h hu hx
  go_enter Try.func25, Try.ntmps25
  go_wp2
  go_loopw [5, 10] (fun p q wr => ∃ (j : Nat) (b : Int), j ≤ n ∧ q = .int .i64 j ∧ p = .int .i64 b ∧ Best l x j b ∧ Below w.heap.size w wr) (fun _ q _ => n - (intOf q).toNat)
  case atStart => exact ⟨0, -1, Nat.zero_le _, rfl, rfl, best_start l x, Below.refl _ _⟩
  case round =>
    obtain ⟨j, bb, hj, rfl, rfl, hB, hW⟩ := hrel
    have HI : Hid (IdsAt wr a n l ∧ Below w.heap.size w wr) := ⟨H0.out.1.carry hW, hW⟩
    clear hW
    by_cases hlt : j < n
    · obtain ⟨b, o, ha, hc⟩ : ∃ b o, a = some ⟨b, o, none⟩ ∧ ∀ j, j < n → wr.cell? ⟨b, o + j, none⟩ = some (.int .u64 (l.getD j 0)) := by
        rcases HI.out.1.2 with h0 | ⟨b, o, ha, hc⟩
        · omega
        · exact ⟨b, o, ha, hc⟩
      subst ha
      have hcy := hc j hlt
      have hry := inU_getD H0.out.2.1 j
      obtain ⟨y, hy⟩ : ∃ y, y = l.getD j 0 := ⟨_, rfl⟩
      rw [← hy] at hcy hry
      have HY : Hid (y = l.getD j 0) := hy
      clear hy
      rcases hB with ⟨rfl, rfl⟩ | ⟨m, rfl, hm, h1, h2⟩
      · clear hc
        rw [Nat.add_zero] at hcy
        go_wp2_with fail
        go_quiet (fail)
        go_wp2
        go_roundw
        case rel => exact ⟨1, 0, by omega, by go_num, rfl, best_first l x, HI.out.2.trans (below_drewN _ _ _)⟩
        case measure => simp [intOf]; omega
      · have hcz := hc m (by omega)
        clear hc
        have hrz := inU_getD H0.out.2.1 m
        obtain ⟨z, hz⟩ : ∃ z, z = l.getD m 0 := ⟨_, rfl⟩
        rw [← hz] at hcz hrz
        have HZ : Hid (z = l.getD m 0) := hz
        have HM : Hid ((∀ i, i < m → dist x (l.getD m 0) < dist x (l.getD i 0)) ∧ (∀ i, i < j → dist x (l.getD m 0) ≤ dist x (l.getD i 0))) := ⟨h1, h2⟩
        clear hz h1 h2
        have hm0 : ¬ ((m : Int) < 0) := by omega
        have hmd : decide ((m : Int) < 0) = false := decide_eq_false hm0
        have hmn : (m : Int) < (n : Int) := by omega
        have hm1 : 0 ≤ (m : Int) := by omega
        have HR : Hid ((0 ≤ y ∧ y ≤ 18446744073709551615) ∧ (0 ≤ z ∧ z ≤ 18446744073709551615)) := ⟨hry, hrz⟩
        clear hry hrz
        by_cases hd : dist x y < dist x z
        · go_wp2_with fail
          go_quiet (first | (go_at_call 11; refine Calls.quiet_of_same (refdist_any _ _ _ H0.out.2.2 ?_); first | exact HR.out.1 | exact HR.out.2))
          go_wp2
          go_roundw
          case rel => exact ⟨j + 1, j, by omega, by go_num, rfl, best_less HM.out.2 (by rw [← HY.out, ← HZ.out]; omega), HI.out.2.trans (below_drewN _ _ _)⟩
          case measure => simp [intOf]; omega
        · go_wp2_with fail
          go_quiet (first | (go_at_call 11; refine Calls.quiet_of_same (refdist_any _ _ _ H0.out.2.2 ?_); first | exact HR.out.1 | exact HR.out.2))
          go_wp2
          go_roundw
          case rel => exact ⟨j + 1, m, by omega, by go_num, rfl, best_stay hm HM.out.1 HM.out.2 (by rw [← HY.out, ← HZ.out]; omega), HI.out.2.trans (below_drewN _ _ _)⟩
          case measure => simp [intOf]; omega
    · have HB : Hid (Best l x l.length bb) := by
        show Best _ _ _ _
        rw [H0.out.1.1, show n = j by omega]; exact hB
      clear hB
      go_wp2
      go_ret
      exact ⟨_, rfl, HI.out.2, HB.out⟩
end Go.Proofs.Ytkmlebikcllkpaa
