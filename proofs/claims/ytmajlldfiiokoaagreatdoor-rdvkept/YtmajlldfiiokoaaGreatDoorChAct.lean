/- Calls of wigwaglaw10 that come in; what stays whoever looks. -/
import Derived.Test.YtmajlldfiiokoaaGreatDoorJoinPrInts
namespace Go.Proofs.YtmajlldfiiokoaaGreatDoor
open Go.ChangeShapes Go.WideShapes Go.ChangeAt Go.RowKit Go.Deep
set_option linter.unusedVariables false

/-- A call of wigwaglaw10's. -/
structure Ac10 where
  kind : Int
  n : Int
  via : Int
  id : Int
def ac100 : Ac10 := ⟨0, 0, 0, 0⟩
def Ac10.cells (t : Ac10) : List Value := [.int .i64 t.kind, .int .i64 t.n, .int .i64 t.via, .int .u64 t.id]
def Ac10.ok (t : Ac10) : Prop := i64 t.kind ∧ i64 t.n ∧ i64 t.via ∧ u64 t.id
theorem cellsAc10 : Tryz.prog.cellsOf 61 = 4 := by kernel_rfl
section
variable {H : Type} {enc' : TypeId × Value → H} {W : World}
set_option maxRecDepth 100000 in
theorem ac10_of (n : Nat) (cs : List Value) (x : DataW H × List MemPlace) (h : DataW.trod enc' Tryz.prog W 0 (fun _ => true) true n 61 cs = some x) : ∃ t : Ac10, cs = t.cells ∧ t.ok := by
  obtain ⟨xs, m, _, _, hl, hlen, hf⟩ := DataW.trod_struct Tryz.underlying61 h
  rw [cellsAc10] at hl
  match cs, hl with
  | [c0, c1, c2, c3], _ =>
    match xs, hlen with
    | [y0, y1, y2, y3], _ =>
      have f0 := hf 0 _ rfl
      have f1 := hf 1 _ rfl
      have f2 := hf 2 _ rfl
      have f3 := hf 3 _ rfl
      simp [cellsI1, cellsU1] at f0 f1 f2 f3
      obtain ⟨k, e0, _, wk⟩ := DataW.trod_int Tryz.underlying3 f0
      obtain ⟨n, e1, _, wn⟩ := DataW.trod_int Tryz.underlying3 f1
      obtain ⟨u, e2, _, wu⟩ := DataW.trod_int Tryz.underlying3 f2
      obtain ⟨s, e3, _, ws⟩ := DataW.trod_int Tryz.underlying59 f3
      simp at e0 e1 e2 e3
      subst e0 e1 e2 e3
      exact ⟨⟨k, n, u, s⟩, rfl, bounds_i64 wk, bounds_i64 wn, bounds_i64 wu, bounds_u64 ws⟩
end
abbrev AcIn (w : World) (a : Option Addr) (len : Nat) (l : List Ac10) : Prop := InRow 4 Ac10.cells Ac10.ok ac100 w a len l
theorem AcIn.at {w : World} {a : Option Addr} {len : Nat} {l : List Ac10} (h : AcIn w a len l) {i : Nat} (hi : i < len) :
    ∃ b o, a = some ⟨b, o, none⟩ ∧ b < w.heap.size ∧ (l.getD i ac100).ok ∧ w.cell? ⟨b, o + i * 4, none⟩ = some (.int .i64 (l.getD i ac100).kind) ∧ w.cell? ⟨b, o + i * 4 + 1, none⟩ = some (.int .i64 (l.getD i ac100).n) ∧ w.cell? ⟨b, o + i * 4 + 2, none⟩ = some (.int .i64 (l.getD i ac100).via) ∧ w.cell? ⟨b, o + i * 4 + 3, none⟩ = some (.int .u64 (l.getD i ac100).id) := by
  rcases h.2.2 with h0 | ⟨b, o, ha, hlt, hc⟩
  · omega
  · have q := (hc i hi).2
    exact ⟨b, o, ha, hlt, (hc i hi).1, q 0 (by omega), q 1 (by omega), q 2 (by omega), q 3 (by omega)⟩

/-- The same ones live, at the same places. -/
def Alike (R R' : Rg) : Prop := (∀ n, 0 ≤ n → R'.lives n = R.lives n) ∧ R'.pl = R.pl
theorem Alike.refl (R : Rg) : Alike R R := ⟨fun _ _ => rfl, rfl⟩
theorem Alike.trans {A B C : Rg} (h : Alike A B) (h' : Alike B C) : Alike A C := ⟨fun n hn => (h'.1 n hn).trans (h.1 n hn), h'.2.trans h.2⟩
theorem head_lv (L : Int → Bool) (l : List Int) : headF L l = -1 ∨ L (headF L l) = true := by
  induction l with
  | nil => exact .inl rfl
  | cons a l ih =>
    cases h : L a
    · simp only [headF, h]; exact ih
    · simp only [headF, h]; exact .inr (by simp [h])
theorem next_lives (R : Rg) (n : Int) : R.next n = -1 ∨ R.lives (R.next n) = true := by
  have lv : ∀ x, R.lv x = true → R.lives x = true := fun x h => by simp only [Rg.lv, Bool.and_eq_true] at h; exact h.2
  unfold Rg.next
  split
  · rename_i h
    simp only [Rg.near, Bool.and_eq_true] at h
    exact .inr (lv _ h.1)
  · rcases head_lv R.lv (R.know n).succ with h | h
    · exact .inl h
    · exact .inr (lv _ h)
theorem lives_setK (R : Rg) (n : Int) (p : Pe) (x : Int) : (R.setK n p).lives x = if x = n then true else R.lives x := by
  simp only [Rg.lives, Rg.setK, upd]; split <;> simp
theorem stab_alike (R : Rg) (n : Int) : Alike R (R.stab n) := by
  unfold Rg.stab
  split
  · rename_i hl
    refine ⟨fun x hx => ?_, rfl⟩
    unfold Rg.tell Rg.learn
    rw [lives_setK, lives_setK]
    split
    · rename_i e
      rcases next_lives R n with h | h
      · omega
      · rw [e, h]
    · split
      · rename_i e; rw [e, hl]
      · rfl
  · exact Alike.refl R
theorem round_alike (R : Rg) : Alike R R.round := by
  unfold Rg.round
  generalize R.live = l
  induction l generalizing R with
  | nil => exact Alike.refl R
  | cons a l ih => exact (stab_alike R a).trans (ih (R.stab a))
theorem Alike.live {R R' : Rg} (h : Alike R R') : R'.live = R.live := by
  unfold Rg.live
  generalize 32 = k
  induction k with
  | zero => rfl
  | succ k ih =>
    unfold Rg.liveTo
    rw [h.1 k (by omega), ih]
theorem Alike.idOf {R R' : Rg} (h : Alike R R') (n : Int) : R'.idOf n = R.idOf n := by unfold Rg.idOf; rw [h.2]
end Go.Proofs.YtmajlldfiiokoaaGreatDoor
