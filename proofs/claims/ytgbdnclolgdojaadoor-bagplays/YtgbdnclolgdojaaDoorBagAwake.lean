/- wigwaglaw03.awake: the chapter's example. -/
import Derived.Test.YtgbdnclolgdojaaDoorBagAll
namespace Go.Proofs.YtgbdnclolgdojaaDoor
open Go.ChangeShapes Go.WideShapes Go.ChangeAt Go.RowKit
set_option linter.unusedVariables false

def aA : ByteArray := { data := #[97] }
def gA1 : Bg := bg0.add 1 2 aA
def gA2 : Bg := gA1.add 1 2 aA
def gA3 : Bg := gA2.del 0
theorem i64_small (x : Int) (h0 : -1000 ≤ x) (h1 : x ≤ 1000) : i64 x := by unfold i64; omega
theorem gA1_ok : gA1.ok := bg0_ok.add 1 2 aA (by decide) (by decide) (i64_small _ (by decide) (by decide)) (i64_small _ (by decide) (by decide))
theorem gA2_ok : gA2.ok := gA1_ok.add 1 2 aA (by decide) (by decide) (i64_small _ (by decide) (by decide)) (i64_small _ (by decide) (by decide))
theorem gA3_ok : gA3.ok := gA2_ok.del 0
theorem gA3_no : ∀ q ∈ gA3.ps, q.id ≠ 1 := by
  intro q hq
  have : q = ⟨2, 1, 2, aA⟩ := by
    have h : gA3.ps = [⟨2, 1, 2, aA⟩] := rfl
    rw [h] at hq
    exact List.mem_singleton.1 hq
  rw [this]; decide

set_option maxRecDepth 100000 in
set_option maxHeartbeats 1000000 in
theorem bawake_any (w : World) : Calls Tryd.prog 6 #[] w fun e w' => e = .returned (.bool true) ∧ Below w.heap.size w w' := by
  go_enter Tryd.func6, Tryd.ntmps6
  go_wp2_with fail
  refine (send_ok w.heap.size w.heap.size _ bg0 1 2 aA _ (BagAt.new w _ (Nat.le_refl _)) (by simp) (by decide) (by decide) (by decide) (by decide)).mono ?_
  rintro e w1 ⟨he, v1, h1, k1⟩
  have he' : e = .returned (.tuple #[.int .i64 1, .nilIface]) := he
  subst he'
  clear he
  have b1 : Below w.heap.size w w1 := k1.belowB (BagAt.new w _ (Nat.le_refl _)) ((Below.refl _ _).alloc (Nat.le_refl _) _) (by simp)
  clear k1
  go_wp2_with fail
  refine (copy_ok w.heap.size w.heap.size v1 gA1 1 0 _ h1 b1.size gA1_ok (by decide) rfl (by decide) (by decide)).mono ?_
  rintro e w2 ⟨he, v2, h2, k2⟩
  have he' : e = .returned (.tuple #[.int .i64 2, .nilIface]) := he
  subst he'
  clear he
  have b2 : Below w.heap.size w w2 := k2.belowB h1 b1 b1.size
  clear h1 k2
  go_wp2_with fail
  refine (take_hit w.heap.size w.heap.size v2 gA2 1 0 _ h2 gA2_ok (by decide) rfl).mono ?_
  rintro e w3 ⟨he, v3, h3, k3⟩
  have he' : e = .returned (.tuple #[.agg #[.int .i64 1, .int .i64 1, .int .i64 2, .string { data := #[97] }], .nilIface]) := he
  subst he'
  clear he
  have b3 : Below w.heap.size w w3 := k3.belowB h2 b2 b2.size
  clear h2 k3
  go_wp2_with fail
  refine (take_miss w.heap.size w.heap.size v3 gA3 1 _ (h3.alloc _) gA3_ok gA3_no).mono ?_
  rintro e w4 ⟨he, hb4⟩
  have he' : e = .returned (.tuple #[.agg #[.int .i64 0, .int .i64 0, .int .i64 0, .string { data := #[] }], .iface 38 (.int .i64 9)]) := he
  subst he'
  clear he
  have h4 := (h3.alloc _).below hb4
  have b4 : Below w.heap.size w w4 := (b3.alloc b3.size _).trans (hb4.mono (by have := b3.size; simp; omega))
  have hc := (hb4.block w3.heap.size (by simp)).trans (heap_alloc_new w3 _)
  obtain ⟨c0, c1, c2, c3, cf⟩ := four_block hc
  have hz : w3.heap.size < w4.heap.size := lt_of_block hc
  have HB : Hid (Below w.heap.size w w4) := b4
  clear hb4 h3 hc b1 b2 b3 b4
  go_wp2_with (first
    | (go_at_call 13; refine (is_same 9 _).mono ?_; rintro e w' ⟨rfl, rfl⟩)
    | (go_at_call 19; refine (len_any w.heap.size w.heap.size v3 gA3 _ (h4.alloc _)).mono ?_; rintro e w' ⟨rfl, rfl⟩))
  go_ret
  exact ⟨ret_b rfl, HB.out.alloc HB.out.size _⟩
end Go.Proofs.YtgbdnclolgdojaaDoor
