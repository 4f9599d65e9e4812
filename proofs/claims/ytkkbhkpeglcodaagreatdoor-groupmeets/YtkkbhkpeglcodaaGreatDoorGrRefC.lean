/- The document's groups (wigwagref08): check. -/
import Derived.Test.YtkkbhkpeglcodaaGreatDoorRefV5d
namespace Go.Proofs.YtkkbhkpeglcodaaGreatDoor
open Go.ChangeShapes Go.WideShapes Go.ChangeAt Go.RowKit
set_option linter.unusedVariables false

/-- The code of the first look: the levels, then the schema. -/
def Chk (az : List At) (L c : Int) : Prop :=
  ((L < 0 ∨ 8 < L) ∧ c = 1) ∨ (0 ≤ L ∧ L ≤ 8 ∧ ((SchemaOk az ∧ c = 0) ∨ (¬ SchemaOk az ∧ c = 3)))
set_option maxHeartbeats 1000000 in
theorem rcheck8_any (v : Value) (az : List At) (L : Int) (w : World) (h : AtIn w v az) (hl : az.length ≤ 1000) (hz : ∀ i, i < az.length → (az.getD i at0).name.size ≤ maxLen) :
    Calls Tryz.prog 40 #[v, .int .i64 L] w fun e w' => (∃ c, e = .returned (.int .i64 c) ∧ Chk az L c) ∧ Below w.heap.size w w' := by
  have HS : Hid _ := rschema5_any v az w h hl hz
  clear h hz
  by_cases h0 : L < 0
  · go_enter Tryz.func40, Tryz.ntmps40
    go_wp2
    go_ret
    exact ⟨⟨1, rfl, Or.inl ⟨Or.inl h0, rfl⟩⟩, Below.refl _ _⟩
  by_cases h8 : 8 < L
  · go_enter Tryz.func40, Tryz.ntmps40
    go_wp2
    go_ret
    exact ⟨⟨1, rfl, Or.inl ⟨Or.inr h8, rfl⟩⟩, Below.refl _ _⟩
  go_enter Tryz.func40, Tryz.ntmps40
  go_wp2_with fail
  refine Calls.mono HS.out ?_
  rintro e W1 ⟨⟨r, rfl, hr⟩, b1⟩
  have HB : Hid (Below w.heap.size w W1) := b1
  clear b1 HS
  rcases hr with ⟨rfl, hok⟩ | ⟨hr, hno⟩
  · have HY : Hid (SchemaOk az) := hok
    clear hok
    go_wp2
    go_ret
    exact ⟨⟨0, rfl, Or.inr ⟨by omega, by omega, Or.inl ⟨HY.out, rfl⟩⟩⟩, HB.out⟩
  · have HN : Hid (¬ SchemaOk az) := hno
    clear hno
    go_wp2
    go_ret
    exact ⟨⟨3, rfl, Or.inr ⟨by omega, by omega, Or.inr ⟨HN.out, rfl⟩⟩⟩, HB.out⟩
end Go.Proofs.YtkkbhkpeglcodaaGreatDoor
