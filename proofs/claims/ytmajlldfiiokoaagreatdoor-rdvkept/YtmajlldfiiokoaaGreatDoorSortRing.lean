/- ring.Sorted: the places, rising, each once. -/
import Derived.Test.YtmajlldfiiokoaaGreatDoorJoinSortRow
namespace Go.Proofs.YtmajlldfiiokoaaGreatDoor
open Go.ChangeShapes Go.WideShapes Go.ChangeAt Go.RowKit
open Go.Sort (swp ltInt PermIn SortedIn bitsLen)
set_option linter.unusedVariables false

theorem mem_arr (d : Array Int) (x : Int) : (∃ i, i < d.size ∧ d[i]! = x) ↔ x ∈ d.toList := by
  rw [List.mem_iff_getElem]
  constructor
  · rintro ⟨i, hi, rfl⟩
    exact ⟨i, by simpa using hi, by rw [getElem!_pos d i hi]; simp⟩
  · rintro ⟨i, hi, rfl⟩
    have hi' : i < d.size := by simpa using hi
    exact ⟨i, hi', by rw [getElem!_pos d i hi']; simp⟩
theorem rising_arr (d : Array Int) (h : Strict d d.size) : d.toList.Pairwise (· < ·) := by
  rw [List.pairwise_iff_getElem]
  intro i j hi hj hij
  have hi' : i < d.size := by simpa using hi
  have hj' : j < d.size := by simpa using hj
  have q := h i j hij hj'
  rw [getElem!_pos d i hi', getElem!_pos d j hj'] at q
  simpa using q
theorem mem_permIn {d R : Array Int} (h : PermIn 0 d.size d R) (x : Int) : x ∈ R.toList ↔ x ∈ d.toList := by
  obtain ⟨h1, _, h3⟩ := h
  have e1 : R.extract 0 d.size = R := by rw [← h1]; simp
  have e2 : d.extract 0 d.size = d := by simp
  rw [e1, e2] at h3
  exact h3.mem_iff

theorem compact_nil (w : World) : Calls Tryz.prog 132 #[.slice none 0 0] w fun e w' => e = .returned (.slice none 0 0) ∧ w' = w := by
  go_enter Tryz.func132, Tryz.ntmps132
  go_wp2
  go_ret
  exact ⟨rfl, rfl⟩

theorem sorted_any (a : Option Addr) (n cap : Nat) (l : List Int) (w : World) (h : IdsAt w a n l) (hn : n < 64) :
    Calls Tryz.prog 87 #[.slice a n cap] w fun e w' =>
      ∃ v R, e = .returned v ∧ Below w.heap.size w w' ∧ OwnIds w.heap.size w' v R ∧ R.Pairwise (· < ·) ∧ (∀ x, x ∈ R ↔ x ∈ l) ∧ R.length < 64 := by
  have H0 : Hid (IdsAt w a n l) := h
  clear h
  go_enter Tryz.func87, Tryz.ntmps87
  go_wp2_with fail
  go_at_call 130
  refine (clone_any a n cap l w H0.out hn).mono ?_
  rintro e' w1 ⟨v, rfl, hb, ho⟩
  have hl := H0.out.1
  have hwb : w.heap.size ≤ w1.heap.size := hb.size
  rcases ho with ⟨rfl, rfl⟩ | ⟨g, c, rfl, hc, hB, hg, hR⟩
  · have HB : Hid (Below w.heap.size w w1) := hb
    clear hb
    go_wp2_with (first
      | (go_at_call 131; refine (sort_nil _).mono ?_; rintro e' w' ⟨rfl, rfl⟩)
      | (go_at_call 132; refine (compact_nil _).mono ?_; rintro e' w' ⟨rfl, rfl⟩))
    go_ret
    exact ⟨_, [], rfl, HB.out, .inl ⟨rfl, rfl⟩, List.Pairwise.nil, fun x => Iff.rfl, by simp⟩
  · have H1 : Hid (Below w.heap.size w w1 ∧ l.length ≤ c ∧ w.heap.size ≤ g ∧ Row w1 g 0 l.toArray ∧ w.heap.size ≤ w1.heap.size ∧ l.length = n) := ⟨hb, hc, hB, hR, hwb, hl⟩
    clear hb hc hB hR hwb hl
    go_wp2_with fail
    go_at_call 131
    have q := sort_any g c l.toArray w1 H1.out.2.2.2.1 hg (by have := H1.out.2.2.2.2.2; simp; omega)
    have hs : l.toArray.size = l.length := by simp
    rw [hs] at q
    refine q.mono ?_
    rintro e' w2 ⟨rfl, hK, R, hR, hP, hS⟩
    have hRs : R.size = l.length := by rw [hP.1, hs]
    have H2 : Hid (RK w1 w2 g ∧ Row w2 g 0 R ∧ PermIn 0 l.length l.toArray R ∧ SortedIn ltInt 0 l.length R ∧ R.size = l.length) := ⟨hK, hR, hP, hS, hRs⟩
    clear q hK hR hP hS hs hRs
    go_wp2_with fail
    go_at_call 132
    have q := compact_any g 0 c R w2 H2.out.2.1 (by rw [H2.out.2.2.2.2]; exact H1.out.2.1) (by rw [H2.out.2.2.2.2]; have := H1.out.2.2.2.2.2; omega) (by
      intro i j hij hj
      rw [H2.out.2.2.2.2] at hj
      have := H2.out.2.2.2.1 i j (Nat.zero_le _) hij hj
      simp [ltInt] at this
      exact this)
    rw [H2.out.2.2.2.2] at q
    refine q.mono ?_
    rintro e' w3 ⟨Q, rfl, hQc, hQs, hK3, hQ, hst, hm⟩
    have H3 : Hid (RK w2 w3 g ∧ Row w3 g 0 Q ∧ Strict Q Q.size ∧ Mem Q Q.size R l.length ∧ Q.size ≤ c ∧ Q.size < 64) := ⟨hK3, hQ, hst, hm, hQc, hQs⟩
    clear q hK3 hQ hst hm hQc hQs
    go_wp2
    go_ret
    obtain ⟨b1, _, hB, _, hwb, hl⟩ := H1.out
    obtain ⟨k2, _, hP, _, hRs⟩ := H2.out
    obtain ⟨k3, hQ, hst, hm, hQc, hQs⟩ := H3.out
    refine ⟨_, Q.toList, rfl, k3.below hB (Nat.le_trans hwb k2.size) (k2.below hB hwb b1), .inr ⟨g, c, by simp, by simpa using hQc, hB, Nat.lt_of_lt_of_le hg (Nat.le_trans k2.size k3.size), by simpa using hQ⟩, rising_arr Q hst, fun x => ?_, by simpa using hQs⟩
    have m := hm x
    rw [← hRs, mem_arr, mem_arr] at m
    rw [m]
    have p := mem_permIn (d := l.toArray) (R := R) (by simpa using hP) x
    simpa using p
end Go.Proofs.YtmajlldfiiokoaaGreatDoor
