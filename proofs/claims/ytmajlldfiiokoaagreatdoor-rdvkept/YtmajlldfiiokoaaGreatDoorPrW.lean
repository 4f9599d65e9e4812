/- Layer 9's world of addresses, as it comes in and as it is asked: Lives, Id. -/
import Derived.Test.YtmajlldfiiokoaaGreatDoorInRow
import Derived.Test.YtmajlldfiiokoaaGreatDoorPrMath
import Derived.Test.YtmajlldfiiokoaaGreatDoorFam
import Derived.Test.YtmajlldfiiokoaaGreatDoorAid
import Derived.WalkLawsBesides
import Derived.Outline
import Derived.Below
namespace Go.Proofs.YtmajlldfiiokoaaGreatDoor
open Go.ChangeShapes Go.WideShapes Go.ChangeAt Go.RowKit Go.Deep
set_option linter.unusedVariables false

/-- A bool. -/
def encB (s : Bool) : List Value := [.bool s]
def okB (_ : Bool) : Prop := True
/-- A place. -/
def encU (n : Int) : List Value := [.int .u64 n]
def u64 (n : Int) : Prop := 0 ≤ n ∧ n ≤ 18446744073709551615
theorem cellsB1 : Tryz.prog.cellsOf 4 = 1 := by kernel_rfl
theorem cellsU1 : Tryz.prog.cellsOf 59 = 1 := by kernel_rfl
abbrev LvIn (w : World) (a : Option Addr) (len : Nat) (lv : List Bool) : Prop := InRow 1 encB okB false w a len lv
abbrev IdIn (w : World) (a : Option Addr) (len : Nat) (ids : List Int) : Prop := InRow 1 encU u64 0 w a len ids
abbrev InIn (w : World) (a : Option Addr) (len : Nat) (l : List Int) : Prop := InRow 1 encI i64 0 w a len l

/-- A member's knowledge, as it came in. -/
structure PeIn (w : World) (id pred : Int) (a : Option Addr) (len cap : Nat) (l : List Int) : Prop where
  hid : u64 id
  hpred : i64 pred
  row : InIn w a len l
  hcap : len ≤ cap
  hmost : cap ≤ 9223372036854775807
  hnil : a = none → len = 0
theorem PeIn.below {w w' : World} {id pred : Int} {a : Option Addr} {len cap : Nat} {l : List Int} (h : PeIn w id pred a len cap l) {B : Nat} (hB : w.heap.size ≤ B) (hb : Below B w w') : PeIn w' id pred a len cap l :=
  ⟨h.hid, h.hpred, h.row.below hB hb, h.hcap, h.hmost, h.hnil⟩

section
variable {H : Type} {enc' : TypeId × Value → H} {W : World}
end

theorem below_one (w : World) (o : Obj) : Below w.heap.size w (w.alloc o) := (Below.refl _ _).alloc (Nat.le_refl _) _

/-- One row of a list of one-cell things. -/
theorem InRow.one {α : Type} {enc : α → List Value} {ok : α → Prop} {d : α} {w : World} {a : Option Addr} {len : Nat} {xs : List α} (h : InRow 1 enc ok d w a len xs) {v : α → Value} (hv : ∀ x, enc x = [v x]) {i : Nat} (hi : i < len) :
    ∃ b o, a = some ⟨b, o, none⟩ ∧ b < w.heap.size ∧ ok (xs.getD i d) ∧ w.cell? ⟨b, o + i, none⟩ = some (v (xs.getD i d)) := by
  rcases h.2.2 with h0 | ⟨b, o, ha, hlt, hc⟩
  · omega
  · have := (hc i hi).2 0 (by omega)
    rw [hv] at this
    exact ⟨b, o, ha, hlt, (hc i hi).1, by simpa using this⟩

end Go.Proofs.YtmajlldfiiokoaaGreatDoor
