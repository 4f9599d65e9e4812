/- The ring of the base, as New makes it, has what holds of a ring always. No program in sight. -/
import Derived.Test.YtmajlldfiiokoaaGreatDoorChInv
namespace Go.Proofs.YtmajlldfiiokoaaGreatDoor
set_option linter.unusedVariables false

theorem Circ.rise {l S : List Int} {c0 c1 c2 c3 : Int} (h : Circ l (circleOf l S) c0 c1 c2 c3) (hp : S.Pairwise (· < ·)) (hm : ∀ x, x ∈ S ↔ x ∈ l) :
    l.getD c0.toNat 0 < l.getD c1.toNat 0 ∧ l.getD c1.toNat 0 < l.getD c2.toNat 0 ∧ l.getD c2.toNat 0 < l.getD c3.toNat 0 := by
  have e := h.eq
  match S, e, hp, hm with
  | [s0, s1, s2, s3], e, hp, hm =>
    have hin : ∀ x ∈ [s0, s1, s2, s3], l.getD (ix l x) 0 = x := fun x hx => (ix_spec ((hm x).1 hx)).2.1
    simp only [circleOf, List.map_cons, List.map_nil, List.cons.injEq, and_true] at e
    obtain ⟨e0, e1, e2, e3⟩ := e
    have g0 := hin s0 (by simp)
    have g1 := hin s1 (by simp)
    have g2 := hin s2 (by simp)
    have g3 := hin s3 (by simp)
    rw [← e0, ← e1, ← e2, ← e3]
    simp only [Int.toNat_natCast, g0, g1, g2, g3]
    simp at hp
    omega
  | [], e, _, _ => simp [circleOf] at e
  | [_], e, _, _ => simp [circleOf] at e
  | [_, _], e, _, _ => simp [circleOf] at e
  | [_, _, _], e, _, _ => simp [circleOf] at e
  | _ :: _ :: _ :: _ :: _ :: _, e, _, _ => simp [circleOf] at e

theorem rise_ns {s0 s1 s2 s3 : Int} (p0 : Plc s0) (p1 : Plc s1) (p2 : Plc s2) (p3 : Plc s3) (h1 : s0 < s1) (h2 : s1 < s2) (h3 : s2 < s3) {x : Int} (hx : x = s0 ∨ x = s1 ∨ x = s2 ∨ x = s3) :
    withinB x s0 s1 = false ∧ withinB x s1 s2 = false ∧ withinB x s2 s3 = false ∧ withinB x s3 s0 = false := by
  have px : Plc x := by rcases hx with e | e | e | e <;> rw [e] <;> assumption
  rw [within_not px p0 p1, within_not px p1 p2, within_not px p2 p3, within_not px p3 p0]
  unfold Plc at *
  unfold dist
  rcases hx with e | e | e | e <;> subst e <;> refine ⟨?_, ?_, ?_, ?_⟩ <;> omega

theorem Circ.inv {l S : List Int} {c0 c1 c2 c3 : Int} (h : Circ l (circleOf l S) c0 c1 c2 c3) (hp : S.Pairwise (· < ·)) (hm : ∀ x, x ∈ S ↔ x ∈ l) (hu : ∀ k : Nat, Plc (l.getD k 0)) : Inv (newTo l (circleOf l S) 4) := by
  obtain ⟨r1, r2, r3⟩ := h.rise hp hm
  obtain ⟨k0, k1, k2, k3, i0, i1, i2, i3, kn⟩ := h.kn
  have hplN : ∀ n, (newTo l (circleOf l S) 4).lives n = true → ((newTo l (circleOf l S) 4).pl n).isSome = true := fun n => newTo_pl _ _ _ n
  have hplX : ∀ n, n ∉ [c0, c1, c2, c3] → (newTo l (circleOf l S) 4).pl n = none := fun n hn => by
    rw [h.eq]
    simp only [List.mem_cons, List.not_mem_nil, or_false, not_or] at hn
    simp [newTo, Rg.setK, Rg.setP, upd, rg0, hn.1, hn.2.1, hn.2.2.1, hn.2.2.2]
  have rng := h.rng
  have all := h.all
  have nd := h.nd
  generalize newTo l (circleOf l S) 4 = R at *
  have q0 := hu c0.toNat
  have q1 := hu c1.toNat
  have q2 := hu c2.toNat
  have q3 := hu c3.toNat
  generalize l.getD c0.toNat 0 = s0 at *
  generalize l.getD c1.toNat 0 = s1 at *
  generalize l.getD c2.toNat 0 = s2 at *
  generalize l.getD c3.toNat 0 = s3 at *
  clear h hp hm hu
  have l0 : R.lives c0 = true := by simp [Rg.lives, k0]
  have l1 : R.lives c1 = true := by simp [Rg.lives, k1]
  have l2 : R.lives c2 = true := by simp [Rg.lives, k2]
  have l3 : R.lives c3 = true := by simp [Rg.lives, k3]
  have w0 : R.know c0 = ⟨s0, c3, [c1, c2, c3]⟩ := by simp [Rg.know, k0]
  have w1 : R.know c1 = ⟨s1, c0, [c2, c3, c0]⟩ := by simp [Rg.know, k1]
  have w2 : R.know c2 = ⟨s2, c1, [c3, c0, c1]⟩ := by simp [Rg.know, k2]
  have w3 : R.know c3 = ⟨s3, c2, [c0, c1, c2]⟩ := by simp [Rg.know, k3]
  have who : ∀ n, R.lives n = true → n = c0 ∨ n = c1 ∨ n = c2 ∨ n = c3 := fun n hn => by
    by_cases e : n ∈ [c0, c1, c2, c3]
    · simpa using e
    · simp [Rg.lives, kn n e] at hn
  have ns : ∀ i, 0 ≤ i → i < 4 → withinB (R.idOf i) s0 s1 = false ∧ withinB (R.idOf i) s1 s2 = false ∧ withinB (R.idOf i) s2 s3 = false ∧ withinB (R.idOf i) s3 s0 = false := fun i h0 h4 => by
    refine rise_ns q0 q1 q2 q3 r1 r2 r3 ?_
    have := all i h0 h4
    simp only [List.mem_cons, List.not_mem_nil, or_false] at this
    rcases this with e | e | e | e <;> rw [e]
    · exact .inl i0
    · exact .inr (.inl i1)
    · exact .inr (.inr (.inl i2))
    · exact .inr (.inr (.inr i3))
  refine ⟨fun n hn => ?_, fun n h0 h4 => ?_, hplN, fun n => ?_, fun n hn => ?_, fun n m hn hm e => ?_, fun n hn => ?_, fun n hn x hx => ?_, fun n hn => ?_, fun n hn => ?_⟩
  · have := who n hn
    have := rng n (by simpa using this)
    omega
  · have := all n h0 h4
    simp only [List.mem_cons, List.not_mem_nil, or_false] at this
    rcases this with e | e | e | e <;> rw [e] <;> assumption
  · by_cases e : n ∈ [c0, c1, c2, c3]
    · simp only [List.mem_cons, List.not_mem_nil, or_false] at e
      rcases e with e | e | e | e <;> rw [e]
      · rw [i0]; exact q0
      · rw [i1]; exact q1
      · rw [i2]; exact q2
      · rw [i3]; exact q3
    · have := hplX n e
      simp [Rg.idOf, this, Plc]
  · rcases who n hn with e | e | e | e <;> rw [e]
    · rw [w0, i0]
    · rw [w1, i1]
    · rw [w2, i2]
    · rw [w3, i3]
  · rcases who n hn with a | a | a | a <;> rcases who m hm with b | b | b | b <;> rw [a, b] at e ⊢ <;> simp only [i0, i1, i2, i3] at e <;> omega
  · rcases who n hn with e | e | e | e <;> rw [e]
    · rw [w0]; rfl
    · rw [w1]; rfl
    · rw [w2]; rfl
    · rw [w3]; rfl
  · have hx' : R.lives x = true := by
      rcases who n hn with e | e | e | e <;> rw [e] at hx <;> simp only [w0, w1, w2, w3, List.mem_cons, List.not_mem_nil, or_false] at hx <;> rcases hx with e2 | e2 | e2 <;> rw [e2] <;> assumption
    exact hplN x hx'
  · rcases who n hn with e | e | e | e <;> rw [e]
    · rw [w0]; exact ⟨c1, by simp, l1⟩
    · rw [w1]; exact ⟨c2, by simp, l2⟩
    · rw [w2]; exact ⟨c3, by simp, l3⟩
    · rw [w3]; exact ⟨c0, by simp, l0⟩
  · have n0 : NS R.idOf s0 s1 := fun i h0 h4 => (ns i h0 h4).1
    have n1 : NS R.idOf s1 s2 := fun i h0 h4 => (ns i h0 h4).2.1
    have n2 : NS R.idOf s2 s3 := fun i h0 h4 => (ns i h0 h4).2.2.1
    have n3 : NS R.idOf s3 s0 := fun i h0 h4 => (ns i h0 h4).2.2.2
    rcases who n hn with e | e | e | e <;> rw [e]
    · rw [w0, i0]; simp [Chain, l1, l2, l3, i1, i2, i3, n0, n1, n2]
    · rw [w1, i1]; simp [Chain, l0, l2, l3, i0, i2, i3, n1, n2, n3]
    · rw [w2, i2]; simp [Chain, l0, l1, l3, i0, i1, i3, n0, n2, n3]
    · rw [w3, i3]; simp [Chain, l0, l1, l2, i0, i1, i2, n0, n1, n3]
end Go.Proofs.YtmajlldfiiokoaaGreatDoor
