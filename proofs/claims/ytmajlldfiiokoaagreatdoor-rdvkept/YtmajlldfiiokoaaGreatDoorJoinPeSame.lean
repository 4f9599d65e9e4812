/- slices.Equal at ints; peer.Same. -/
import Derived.Test.YtmajlldfiiokoaaGreatDoorJoinPrInts
import Derived.Test.YtmajlldfiiokoaaGreatDoorJoinChMap
import Derived.Deep.CutBlock
import Derived.Deep.DeepCutAuto
import Derived.Test.YtmajlldfiiokoaaGreatDoorChHop
set_option linter.unnecessarySimpa false
namespace Go.Proofs.YtmajlldfiiokoaaGreatDoor
open Go.ChangeShapes Go.WideShapes Go.ChangeAt Go.RowKit Go.Deep
set_option linter.unusedVariables false


/-- Do two know the same? -/
def peB (a b : Pe) : Bool := a.id == b.id && (a.pred == b.pred && intsB a.succ b.succ)
end Go.Proofs.YtmajlldfiiokoaaGreatDoor

/- The circle of those that live, by their places; what each one should know. No program in sight. -/
namespace Go.Proofs.YtmajlldfiiokoaaGreatDoor
set_option linter.unusedVariables false

structure Cir (R : Rg) (C : List Int) : Prop where
  rise : C.Pairwise (fun a b => R.idOf a < R.idOf b)
  mem : ∀ x, x ∈ C ↔ R.lives x = true
  len : C.length = R.live.length
/-- What the one at i should know. -/
def idPe (R : Rg) (C : List Int) (i : Nat) : Pe := ⟨R.idOf (C.getD i 0), C.getD ((i + C.length - 1) % C.length) 0, (C.drop (i + 1) ++ C.take i).take 3⟩
/-- Do the first k know it? -/
def isB (R : Rg) (C : List Int) : Nat → Bool
  | 0 => true
  | k + 1 => isB R C k && peB (R.know (C.getD k 0)) (idPe R C k)
theorem live_four {R : Rg} (h : Inv R) : 4 ≤ R.live.length := by
  have := nodup_sub [0, 1, 2, 3] R.live (by decide) (fun x hx => by
    have hx4 : 0 ≤ x ∧ x < 4 := by simp at hx; omega
    exact h.in_live (h.base x hx4.1 hx4.2))
  simpa using this
section
variable {R : Rg} {C : List Int} (h : Inv R) (c : Cir R C)
include c
theorem Cir.lt {i j : Nat} (hij : i < j) (hj : j < C.length) : R.idOf (C.getD i 0) < R.idOf (C.getD j 0) := by
  have := List.pairwise_iff_getElem.1 c.rise i j (by omega) hj hij
  have e1 : C.getD i 0 = C[i]'(by omega) := by simp [List.getD, show i < C.length by omega]
  have e2 : C.getD j 0 = C[j] := by simp [List.getD, hj]
  rw [e1, e2]; exact this
theorem Cir.lv {i : Nat} (hi : i < C.length) : R.lives (C.getD i 0) = true := by
  have e2 : C.getD i 0 = C[i] := by simp [List.getD, hi]
  rw [e2]; exact (c.mem _).1 (List.getElem_mem _)
theorem Cir.at_ {x : Int} (hx : R.lives x = true) : ∃ j, j < C.length ∧ C.getD j 0 = x := by
  obtain ⟨j, hj, e⟩ := List.getElem_of_mem ((c.mem x).2 hx)
  exact ⟨j, hj, by simp [List.getD, hj, e]⟩
include h
theorem Cir.four : 4 ≤ C.length := by rw [c.len]; exact live_four h
theorem Cir.adj {i : Nat} (hi : i < C.length) : Adj R (C.getD i 0) (C.getD ((i + 1) % C.length) 0) := by
  have h4 := c.four h
  have hk : (i + 1) % C.length < C.length := Nat.mod_lt _ (by omega)
  have ui := h.u (C.getD i 0)
  refine ⟨c.lv hi, c.lv hk, ?_, fun y hy => ?_⟩
  · intro e
    by_cases q : i + 1 < C.length
    · rw [Nat.mod_eq_of_lt q] at e
      have := c.lt (i := i) (j := i + 1) (by omega) q
      rw [← e] at this; omega
    · have e0 : i + 1 = C.length := by omega
      rw [e0, Nat.mod_self] at e
      have := c.lt (i := 0) (j := i) (by omega) hi
      rw [← e] at this; omega
  · obtain ⟨j, hj, e⟩ := c.at_ hy
    subst e
    have uj := h.u (C.getD j 0)
    have uk := h.u (C.getD ((i + 1) % C.length) 0)
    rw [within_not uj ui uk]
    by_cases eij : j = i
    · subst eij; left; exact dist_self _
    · right
      by_cases q : i + 1 < C.length
      · rw [Nat.mod_eq_of_lt q] at uk ⊢
        have l1 := c.lt (i := i) (j := i + 1) (by omega) q
        rcases Nat.lt_or_ge j i with g | g
        · have l2 := c.lt (i := j) (j := i) g hi
          unfold Plc at *; unfold dist; omega
        · by_cases e2 : j = i + 1
          · subst e2; unfold Plc at *; unfold dist; omega
          · have l2 := c.lt (i := i + 1) (j := j) (by omega) hj
            unfold Plc at *; unfold dist; omega
      · have e0 : i + 1 = C.length := by omega
        rw [e0, Nat.mod_self] at uk ⊢
        have l1 := c.lt (i := 0) (j := i) (by omega) hi
        have l3 := c.lt (i := j) (j := i) (by omega) hi
        by_cases e2 : j = 0
        · subst e2; unfold Plc at *; unfold dist; omega
        · have l2 := c.lt (i := 0) (j := j) (by omega) hj
          unfold Plc at *; unfold dist; omega
end
theorem rot_getD (C : List Int) (i k : Nat) (hi : i < C.length) (hk : k + 1 < C.length) : (C.drop (i + 1) ++ C.take i).getD k 0 = C.getD ((i + 1 + k) % C.length) 0 := by
  simp only [List.getD, List.getElem?_append, List.length_drop]
  by_cases q : k < C.length - (i + 1)
  · rw [if_pos q, List.getElem?_drop, Nat.mod_eq_of_lt (by omega)]
  · rw [if_neg q, List.getElem?_take_of_lt (by omega)]
    have e : (i + 1 + k) % C.length = k - (C.length - (i + 1)) := by
      rw [Nat.mod_eq_sub_mod (by omega), Nat.mod_eq_of_lt (by omega)]; omega
    rw [e]
theorem take3 (l : List Int) (hl : 3 ≤ l.length) : l.take 3 = [l.getD 0 0, l.getD 1 0, l.getD 2 0] := by
  match l, hl with
  | a :: b :: c :: l, _ => rfl
theorem idPe_succ {C : List Int} {R : Rg} {i : Nat} (h4 : 4 ≤ C.length) (hi : i < C.length) : (idPe R C i).succ = [C.getD ((i + 1) % C.length) 0, C.getD ((i + 2) % C.length) 0, C.getD ((i + 3) % C.length) 0] := by
  unfold idPe
  simp only
  rw [take3 _ (by simp; omega), rot_getD C i 0 hi (by omega), rot_getD C i 1 hi (by omega), rot_getD C i 2 hi (by omega)]
/-- In the calm each one knows what it should. -/
theorem Rgt.know_eq {R : Rg} {C : List Int} (h : Rgt 3 R) (c : Cir R C) {i : Nat} (hi : i < C.length) : R.know (C.getD i 0) = idPe R C i := by
  obtain ⟨hv, hh, hl⟩ := h
  have h4 := c.four hv
  have a1 := c.adj hv hi
  have m1 : (i + 1) % C.length < C.length := Nat.mod_lt _ (by omega)
  have m2 : (i + 2) % C.length < C.length := Nat.mod_lt _ (by omega)
  have a2 := c.adj hv m1
  have e2 : ((i + 1) % C.length + 1) % C.length = (i + 2) % C.length := by rw [Nat.add_mod, Nat.mod_mod, ← Nat.add_mod]
  rw [e2] at a2
  have a3 := c.adj hv m2
  have e3 : ((i + 2) % C.length + 1) % C.length = (i + 3) % C.length := by rw [Nat.add_mod, Nat.mod_mod, ← Nat.add_mod]
  rw [e3] at a3
  have m0 : (i + C.length - 1) % C.length < C.length := Nat.mod_lt _ (by omega)
  have a0 := c.adj hv m0
  have e0 : ((i + C.length - 1) % C.length + 1) % C.length = i := by
    rw [Nat.add_mod, Nat.mod_mod, ← Nat.add_mod, show i + C.length - 1 + 1 = i + C.length by omega, Nat.add_mod_right, Nat.mod_eq_of_lt hi]
  rw [e0] at a0
  have hlc := a1.1
  have hlen := hv.len _ hlc
  have hls := hl _ hlc
  have hpr := (hh _ _ a0).2
  have hidc := hv.id _ hlc
  have hs := idPe_succ (R := R) h4 hi
  unfold Lst at hls
  have e : R.know (C.getD i 0) = ⟨(R.know (C.getD i 0)).id, (R.know (C.getD i 0)).pred, (R.know (C.getD i 0)).succ⟩ := rfl
  rw [e, hidc, hpr]
  have es : (R.know (C.getD i 0)).succ = (idPe R C i).succ := by
    rw [hs]
    match hps : (R.know (C.getD i 0)).succ, hlen with
    | [x1, x2, x3], _ =>
      rw [hps] at hls
      simp only [List.take, AdjC] at hls
      have q1 := hv.adj_uniq hls.1 a1
      rw [q1] at hls
      have q2 := hv.adj_uniq hls.2.1 a2
      rw [q2] at hls
      have q3 := hv.adj_uniq hls.2.2.1 a3
      rw [q1, q2, q3]
  rw [es]; rfl
theorem peB_refl (p : Pe) : peB p p = true := by
  have : intsB p.succ p.succ = true := ints_all rfl (fun _ _ => rfl)
  simp [peB, this]
theorem Rgt.is {R : Rg} {C : List Int} (h : Rgt 3 R) (c : Cir R C) : ∀ k, k ≤ C.length → isB R C k = true := by
  intro k
  induction k with
  | zero => intro _; rfl
  | succ k ih => intro hk; unfold isB; rw [ih (by omega), h.know_eq c (by omega), peB_refl]; rfl
end Go.Proofs.YtmajlldfiiokoaaGreatDoor

/- Round the circle and back. No program in sight. -/
namespace Go.Proofs.YtmajlldfiiokoaaGreatDoor
set_option linter.unusedVariables false
theorem Cir.inj {R : Rg} {C : List Int} (h : Cir R C) {i j : Nat} (hi : i < C.length) (hj : j < C.length) (e : C.getD i 0 = C.getD j 0) : i = j := by
  rcases Nat.lt_trichotomy i j with q | q | q
  · have := Cir.lt h q hj; rw [e] at this; omega
  · exact q
  · have := Cir.lt h q hi; rw [e] at this; omega
end Go.Proofs.YtmajlldfiiokoaaGreatDoor
