/- Head by head: from each member one comes to every base member; from the base round once. No program in sight. -/
import Derived.Test.YtmajlldfiiokoaaGreatDoorChCalm
import Derived.Test.YtmajlldfiiokoaaGreatDoorChNewI
namespace Go.Proofs.YtmajlldfiiokoaaGreatDoor
set_option linter.unusedVariables false

def Rg.hop (R : Rg) (x : Int) : Nat → Int
  | 0 => x
  | k + 1 => R.head (R.hop x k)
theorem Inv.hop {R : Rg} (h : Inv R) {x : Int} (hx : R.lives x = true) (k : Nat) : R.lives (R.hop x k) = true := by
  induction k with
  | zero => exact hx
  | succ k ih => exact (h.head ih).1
theorem hop_head (R : Rg) (x : Int) (k : Nat) : R.hop (R.head x) k = R.hop x (k + 1) := by
  induction k with
  | zero => rfl
  | succ k ih => show R.head (R.hop (R.head x) k) = _; rw [ih]; rfl
theorem Inv.hop_base {R : Rg} (h : Inv R) {b : Int} (h0 : 0 ≤ b) (h4 : b < 4) : ∀ (m : Nat) (x : Int), R.lives x = true → R.rk b x ≤ m → ∃ j, j ≤ m ∧ R.hop x j = b := by
  intro m
  induction m with
  | zero =>
    intro x hx hm
    by_cases e : x = b
    · exact ⟨0, Nat.le_refl _, e⟩
    · have := h.rk_pos (b := b) (h.base b h0 h4) hx e; omega
  | succ m ih =>
    intro x hx hm
    by_cases e : x = b
    · exact ⟨0, Nat.zero_le _, e⟩
    · have := h.toward_rk h0 h4 hx e
      obtain ⟨j, hj, hb⟩ := ih (R.head x) (h.head hx).1 (by omega)
      exact ⟨j + 1, by omega, by rw [← hop_head]; exact hb⟩
/-- Was it there among the first k? -/
def Rg.vis (R : Rg) (b x : Int) : Nat → Bool
  | 0 => false
  | k + 1 => R.vis b x k || R.hop x k == b
theorem vis_of {R : Rg} {b x : Int} {j k : Nat} (hj : j < k) (hb : R.hop x j = b) : R.vis b x k = true := by
  induction k with
  | zero => omega
  | succ k ih =>
    unfold Rg.vis
    by_cases e : j = k
    · subst e; simp [hb]
    · rw [ih (by omega)]; rfl
theorem Inv.vis {R : Rg} (h : Inv R) {b x : Int} (h0 : 0 ≤ b) (h4 : b < 4) (hx : R.lives x = true) : R.vis b x 70 = true := by
  obtain ⟨j, hj, hb⟩ := h.hop_base h0 h4 (R.rk b x) x hx (Nat.le_refl _)
  have h1 := h.rk_le b x
  have h2 : R.live.length ≤ 32 := liveTo_len R 32
  exact vis_of (by omega) hb
def seenV (a b c d : Bool) : Int := (if a then 1 else 0) + (if b then 2 else 0) + (if c then 4 else 0) + (if d then 8 else 0)
def Rg.seen (R : Rg) (x : Int) (k : Nat) : Int := seenV (R.vis 0 x k) (R.vis 1 x k) (R.vis 2 x k) (R.vis 3 x k)
theorem Inv.seen {R : Rg} (h : Inv R) {x : Int} (hx : R.lives x = true) : R.seen x 70 = 15 := by
  unfold Rg.seen
  rw [h.vis (b := 0) (by omega) (by omega) hx, h.vis (b := 1) (by omega) (by omega) hx, h.vis (b := 2) (by omega) (by omega) hx, h.vis (b := 3) (by omega) (by omega) hx]
  rfl
/-- On the way round from base member 0. -/
def Way (R : Rg) (n : Int) (k : Nat) : Prop := R.lives n = true ∧ ((n = 0 ∧ k = 0) ∨ (n ≠ 0 ∧ R.rk 0 n + k ≤ 33))
theorem Way.next {R : Rg} (h : Inv R) {n : Int} {k : Nat} (hw : Way R n k) : R.head n = 0 ∧ n ≠ 0 ∨ Way R (R.head n) (k + 1) := by
  obtain ⟨h1, h2⟩ := h.head hw.1
  by_cases e : R.head n = 0
  · left
    refine ⟨e, fun e2 => ?_⟩
    exact h.apart h2 (e.trans e2.symm)
  · right
    refine ⟨h1, .inr ⟨e, ?_⟩⟩
    rcases hw.2 with ⟨_, q⟩ | ⟨q1, q⟩
    · have h3 := h.rk_le 0 (R.head n)
      have h4 : R.live.length ≤ 32 := liveTo_len R 32
      omega
    · have := h.toward_rk (b := 0) (by omega) (by omega) hw.1 q1
      omega
end Go.Proofs.YtmajlldfiiokoaaGreatDoor
