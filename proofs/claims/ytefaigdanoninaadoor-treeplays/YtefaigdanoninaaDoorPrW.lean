/- Layer 9's world of addresses, as it comes in and as it is asked: Lives, Id. -/
import Derived.Test.YtefaigdanoninaaDoorInRow
import Derived.Test.YtefaigdanoninaaDoorPrMath
import Derived.Test.YtefaigdanoninaaDoorFam
import Derived.Test.YtefaigdanoninaaDoorAid
import Derived.WalkLawsBesides
import Derived.Outline
import Derived.Below
namespace Go.Proofs.YtefaigdanoninaaDoor
open Go.ChangeShapes Go.WideShapes Go.ChangeAt Go.RowKit Go.Deep
set_option linter.unusedVariables false

/-- A bool. -/
def encB (s : Bool) : List Value := [.bool s]
def okB (_ : Bool) : Prop := True
/-- A place. -/
def encU (n : Int) : List Value := [.int .u64 n]
def u64 (n : Int) : Prop := 0 ≤ n ∧ n ≤ 18446744073709551615
theorem lenB (s : Bool) : (encB s).length = 1 := rfl
theorem lenU (s : Int) : (encU s).length = 1 := rfl
theorem cellsB1 : Tryd.prog.cellsOf 4 = 1 := by kernel_rfl
theorem cellsU1 : Tryd.prog.cellsOf 49 = 1 := by kernel_rfl
theorem cellsLi : Tryd.prog.cellsOf 22 = 1 := by kernel_rfl
abbrev LvIn (w : World) (a : Option Addr) (len : Nat) (lv : List Bool) : Prop := InRow 1 encB okB false w a len lv
abbrev IdIn (w : World) (a : Option Addr) (len : Nat) (ids : List Int) : Prop := InRow 1 encU u64 0 w a len ids
abbrev InIn (w : World) (a : Option Addr) (len : Nat) (l : List Int) : Prop := InRow 1 encI i64 0 w a len l

/-- A member's knowledge, as it came in. -/
structure PeIn (w : World) (id pred : Int) (a : Option Addr) (len cap : Nat) (l : List Int) : Prop where
  hid : u64 id
  hpred : i64 pred
  row : InIn w a len l
  hcap : len ≤ cap
  hmost : cap ≤ 9223372036854775807
  hnil : a = none → len = 0
theorem PeIn.below {w w' : World} {id pred : Int} {a : Option Addr} {len cap : Nat} {l : List Int} (h : PeIn w id pred a len cap l) {B : Nat} (hB : w.heap.size ≤ B) (hb : Below B w w') : PeIn w' id pred a len cap l :=
  ⟨h.hid, h.hpred, h.row.below hB hb, h.hcap, h.hmost, h.hnil⟩

section
variable {H : Type} {enc' : TypeId × Value → H} {W : World}
theorem slice_caps {T E : TypeId} (hT : Tryd.prog.underlying T = some (.slice E)) {n : Nat} {a : Option Addr} {len cap : Nat} {x : DataW H × List MemPlace} (h : DataW.trod enc' Tryd.prog W 0 (fun _ => true) true n T [.slice a len cap] = some x) : len ≤ cap ∧ cap ≤ 9223372036854775807 ∧ (a = none → len = 0) := by
  rcases open_slice hT h with ⟨hcs, _⟩ | ⟨ad, l, c, m, n, D, Pl, hcs, _, h1, h2, _⟩
  · simp at hcs; omega
  · simp at hcs; unfold maxLen at h2; exact ⟨by omega, by omega, fun h => by rw [hcs.1] at h; cases h⟩
theorem bool_of (n : Nat) (cs : List Value) (x : DataW H × List MemPlace) (h : DataW.trod enc' Tryd.prog W 0 (fun _ => true) true n 4 cs = some x) : ∃ s, cs = encB s ∧ okB s := by
  obtain ⟨s, e, _⟩ := DataW.trod_bool Tryd.underlying4 h
  exact ⟨s, e, trivial⟩
theorem uid_of (n : Nat) (cs : List Value) (x : DataW H × List MemPlace) (h : DataW.trod enc' Tryd.prog W 0 (fun _ => true) true n 49 cs = some x) : ∃ s, cs = encU s ∧ u64 s := by
  obtain ⟨s, e, _, ws⟩ := DataW.trod_int Tryd.underlying49 h
  exact ⟨s, e, bounds_u64 ws⟩
theorem slice_shape {T E : TypeId} (hT : Tryd.prog.underlying T = some (.slice E)) {n : Nat} {c0 : Value} {x : DataW H × List MemPlace} (h : DataW.trod enc' Tryd.prog W 0 (fun _ => true) true n T [c0] = some x) : ∃ a len cap, c0 = .slice a len cap := by
  rcases open_slice hT h with ⟨hcs, _⟩ | ⟨ad, l, c, m, n, D, Pl, hcs, _⟩
  · simp at hcs; exact ⟨_, _, _, hcs⟩
  · simp at hcs; exact ⟨_, _, _, hcs⟩
end

theorem below_one (w : World) (o : Obj) : Below w.heap.size w (w.alloc o) := (Below.refl _ _).alloc (Nat.le_refl _) _

/-- One row of a list of one-cell things. -/
theorem InRow.one {α : Type} {enc : α → List Value} {ok : α → Prop} {d : α} {w : World} {a : Option Addr} {len : Nat} {xs : List α} (h : InRow 1 enc ok d w a len xs) {v : α → Value} (hv : ∀ x, enc x = [v x]) {i : Nat} (hi : i < len) :
    ∃ b o, a = some ⟨b, o, none⟩ ∧ b < w.heap.size ∧ ok (xs.getD i d) ∧ w.cell? ⟨b, o + i, none⟩ = some (v (xs.getD i d)) := by
  rcases h.2.2 with h0 | ⟨b, o, ha, hlt, hc⟩
  · omega
  · have := (hc i hi).2 0 (by omega)
    rw [hv] at this
    exact ⟨b, o, ha, hlt, (hc i hi).1, by simpa using this⟩

theorem idI_rng {w : World} {a : Option Addr} {len : Nat} {ids : List Int} (h : IdIn w a len ids) (n : Int) : u64 (idI ids n) := by
  by_cases q : 0 ≤ n
  · rw [id_at q]
    by_cases q1 : n.toNat < len
    · obtain ⟨b, o, _, _, hk, _⟩ := h.one (v := Value.int .u64) (fun _ => rfl) q1
      exact hk
    · have : ids.length ≤ n.toNat := by rw [h.1]; omega
      simp [u64, List.getD, List.getElem?_eq_none this]
  · rw [id_neg (by omega)]; simp [u64]
end Go.Proofs.YtefaigdanoninaaDoor
