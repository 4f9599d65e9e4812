/- What stays of a ring whatever the calls: the base, who went; how many live. -/
import Derived.Test.YtgljbbjdnmfphaaGreatDoorChAct
namespace Go.Proofs.YtgljbbjdnmfphaaGreatDoor
open Go.ChangeShapes Go.WideShapes Go.ChangeAt Go.RowKit Go.Deep
set_option linter.unusedVariables false

/-- Those that live have an address and a place, and the base lives. -/
structure Sane (R : Rg) : Prop where
  rng : ∀ n, R.lives n = true → n = -1 ∨ (0 ≤ n ∧ n < 32)
  pl : ∀ n, 0 ≤ n → R.lives n = true → (R.pl n).isSome = true
  base : ∀ n, 0 ≤ n → n < 4 → R.lives n = true

theorem live_other {R R' : Rg} {n : Int} (h : ∀ x, x ≠ n → R'.lives x = R.lives x) (k : Nat) (hk : (k : Int) ≤ n) : R'.liveTo k = R.liveTo k := by
  induction k with
  | zero => rfl
  | succ k ih =>
    unfold Rg.liveTo
    rw [h k (by omega), ih (by omega)]
theorem live_neg {R R' : Rg} {n : Int} (h : ∀ x, x ≠ n → R'.lives x = R.lives x) (hn : n < 0) (k : Nat) : R'.liveTo k = R.liveTo k := by
  induction k with
  | zero => rfl
  | succ k ih =>
    unfold Rg.liveTo
    rw [h k (by omega), ih]
theorem live_up {R R' : Rg} {n : Int} (h : ∀ x, x ≠ n → R'.lives x = R.lives x) (h0 : R.lives n = false) (h1 : R'.lives n = true) (hn : 0 ≤ n) (k : Nat) (hk : n < k) : (R'.liveTo k).length = (R.liveTo k).length + 1 := by
  induction k with
  | zero => omega
  | succ k ih =>
    by_cases e : n = k
    · subst e
      unfold Rg.liveTo
      rw [h0, h1, live_other h k (by omega)]
      simp
    · have := ih (by omega)
      unfold Rg.liveTo
      rw [h k (fun q => e q.symm)]
      split
      · simp [this]
      · exact this

theorem joinC_zero {R : Rg} {n id via : Int} (h : R.joinC n id via = 0) : 0 ≤ n ∧ n < 32 ∧ R.pl n = none := by
  unfold Rg.joinC at h
  by_cases q : n < 0 ∨ 32 ≤ n
  · rw [if_pos q] at h; cases h
  · rw [if_neg q] at h
    refine ⟨by omega, by omega, ?_⟩
    cases hp : R.pl n with
    | none => rfl
    | some x => rw [hp] at h; simp at h
theorem failC_zero {R : Rg} {n : Int} (h : R.failC n = 0) : R.lives n = true ∧ 4 ≤ n := by
  unfold Rg.failC at h
  cases hl : R.lives n
  · rw [hl] at h; simp at h
  · rw [hl] at h
    by_cases q : n < 4 ∨ R.needed n = true
    · simp [q] at h
    · exact ⟨rfl, by omega⟩
theorem lives_delK (R : Rg) (n x : Int) : (R.delK n).lives x = if x = n then false else R.lives x := by
  simp only [Rg.lives, Rg.delK, upd]; split <;> simp
theorem lives_joined (R : Rg) (n id y x : Int) : (R.joined n id y).lives x = if x = n then true else R.lives x := by
  unfold Rg.joined; rw [lives_setK]; rfl
theorem pl_joined (R : Rg) (n id y x : Int) : (R.joined n id y).pl x = if x = n then some id else R.pl x := rfl

theorem Sane.join {R : Rg} (h : Sane R) (n id via : Int) : Sane (R.join n id via) ∧ ((R.join n id via).live.length = R.live.length + if R.joinC n id via = 0 then 1 else 0) ∧ (∀ x, (R.pl x).isSome = true → ((R.join n id via).pl x).isSome = true ∧ ((R.join n id via).lives x = R.lives x)) := by
  unfold Rg.join
  by_cases q : R.joinC n id via = 0
  · rw [if_pos q, if_pos q]
    obtain ⟨h0, h1, h2⟩ := joinC_zero q
    have hln : R.lives n = false := by
      cases hl : R.lives n
      · rfl
      · have := h.pl n h0 hl; rw [h2] at this; cases this
    refine ⟨⟨fun x hx => ?_, fun x hx0 hx => ?_, fun x hx0 hx1 => ?_⟩, ?_, fun x hx => ⟨?_, ?_⟩⟩
    · rw [lives_joined] at hx
      split at hx
      · rename_i e; exact .inr (by omega)
      · exact h.rng x hx
    · rw [lives_joined] at hx
      rw [pl_joined]
      split
      · rfl
      · rename_i e; rw [if_neg e] at hx; exact h.pl x hx0 hx
    · rw [lives_joined]
      split
      · rfl
      · exact h.base x hx0 hx1
    · exact live_up (fun x hx => by rw [lives_joined, if_neg hx]) hln (by rw [lives_joined, if_pos rfl]) h0 32 (by omega)
    · rw [pl_joined]; split
      · rfl
      · exact hx
    · rw [lives_joined]; split
      · rename_i e; rw [e, h2] at hx; cases hx
      · rfl
  · rw [if_neg q, if_neg q]
    exact ⟨h, rfl, fun x hx => ⟨hx, rfl⟩⟩
theorem Sane.fail {R : Rg} (h : Sane R) (n : Int) : Sane (R.fail n) ∧ ((R.fail n).live.length + (if R.failC n = 0 then 1 else 0) = R.live.length) ∧ (R.fail n).pl = R.pl ∧ (∀ x, R.lives x = false → (R.fail n).lives x = false) ∧ (R.failC n = 0 → (R.fail n).lives n = false ∧ 4 ≤ n ∧ n < 32 ∧ (R.pl n).isSome = true) := by
  unfold Rg.fail
  by_cases q : R.failC n = 0
  · rw [if_pos q, if_pos q]
    obtain ⟨h0, h1⟩ := failC_zero q
    have hr := h.rng n h0
    refine ⟨⟨fun x hx => ?_, fun x hx0 hx => ?_, fun x hx0 hx1 => ?_⟩, ?_, rfl, fun x hx => ?_, fun _ => ⟨by rw [lives_delK, if_pos rfl], h1, by omega, h.pl n (by omega) h0⟩⟩
    · rw [lives_delK] at hx; split at hx
      · cases hx
      · exact h.rng x hx
    · rw [lives_delK] at hx; split at hx
      · cases hx
      · exact h.pl x hx0 hx
    · rw [lives_delK, if_neg (by omega)]; exact h.base x hx0 hx1
    · exact (live_up (R := R.delK n) (R' := R) (n := n) (fun x hx => by rw [lives_delK, if_neg hx]) (by rw [lives_delK, if_pos rfl]) h0 (by omega) 32 (by omega)).symm
    · rw [lives_delK]; split
      · rfl
      · exact hx
  · rw [if_neg q, if_neg q]
    exact ⟨h, rfl, rfl, fun x hx => hx, fun e => absurd e q⟩
theorem stab_range {R : Rg} (h : Sane R) (n : Int) (x : Int) (hx : (R.stab n).lives x = true) : x = -1 ∨ R.lives x = true := by
  unfold Rg.stab at hx
  split at hx
  · rename_i hl
    unfold Rg.tell Rg.learn at hx
    rw [lives_setK, lives_setK] at hx
    split at hx
    · rename_i e
      rcases next_lives R n with q | q
      · exact .inl (e.trans q)
      · exact .inr (by rw [e]; exact q)
    · split at hx
      · rename_i e; exact .inr (by rw [e]; exact hl)
      · exact .inr hx
  · exact .inr hx
theorem Sane.stab {R : Rg} (h : Sane R) (n : Int) : Sane (R.stab n) := by
  have ha := stab_alike R n
  refine ⟨fun x hx => ?_, fun x hx0 hx => ?_, fun x hx0 hx1 => ?_⟩
  · rcases stab_range h n x hx with e | e
    · exact .inl e
    · exact h.rng x e
  · rw [ha.2]; rw [ha.1 x hx0] at hx; exact h.pl x hx0 hx
  · rw [ha.1 x hx0]; exact h.base x hx0 hx1
theorem Sane.round {R : Rg} (h : Sane R) : Sane R.round := by
  unfold Rg.round
  generalize R.live = l
  induction l generalizing R with
  | nil => exact h
  | cons a l ih => exact ih (h.stab a)
theorem Circ.sane {l C : List Int} {c0 c1 c2 c3 : Int} (h : Circ l C c0 c1 c2 c3) (hp : ∀ n, 0 ≤ n → (newTo l C 4).lives n = true → ((newTo l C 4).pl n).isSome = true) : Sane (newTo l C 4) := by
  obtain ⟨k0, k1, k2, k3, _, _, _, _, kn⟩ := h.kn
  refine ⟨fun n hn => ?_, hp, fun n h0 h1 => ?_⟩
  · by_cases hm : n ∈ [c0, c1, c2, c3]
    · have := h.rng n hm; exact .inr (by omega)
    · have := kn n hm
      simp [Rg.lives, this] at hn
  · obtain ⟨p, e, _⟩ := h.known n h0 h1
    simp [Rg.lives, e]
theorem newTo_pl (l C : List Int) (k : Nat) (n : Int) : (newTo l C k).lives n = true → ((newTo l C k).pl n).isSome = true := by
  induction k with
  | zero => intro h; cases h
  | succ k ih =>
    rw [newTo_succ, lives_setK]
    intro h
    simp only [Rg.setK, Rg.setP, upd]
    split
    · rfl
    · rename_i e
      rw [if_neg e] at h
      exact ih h
theorem cl_join (R : Rg) (n id via : Int) : (R.join n id via).cl = R.cl := by unfold Rg.join; split <;> rfl
theorem cl_fail (R : Rg) (n : Int) : (R.fail n).cl = R.cl := by unfold Rg.fail; split <;> rfl
theorem cl_stab (R : Rg) (n : Int) : (R.stab n).cl = R.cl := by unfold Rg.stab; split <;> rfl
theorem cl_round (R : Rg) : R.round.cl = R.cl := by
  unfold Rg.round
  generalize R.live = l
  induction l generalizing R with
  | nil => rfl
  | cons a l ih => exact (ih (R.stab a)).trans (cl_stab R a)
end Go.Proofs.YtgljbbjdnmfphaaGreatDoor
