/- wigwaglaw20.List: a list says who is next. wigwaglaw20.awake. -/
import Derived.Test.YtefaigdanoninaaDoorTrOf
import Derived.Test.YtefaigdanoninaaDoorTrNode
namespace Go.Proofs.YtefaigdanoninaaDoor
open Go.ChangeShapes Go.WideShapes Go.ChangeAt Go.RowKit Go.Deep
open Go.ChangeMaps (setBlock)
set_option linter.unusedVariables false

/-- As the list says; of others, and where it says -1, nobody. -/
def nxL (l : List Int) (n : Int) : Option Int := if 0 ≤ n ∧ n < l.length ∧ l.getD n.toNat 0 ≠ -1 then some (l.getD n.toNat 0) else none
theorem nxL_some {l : List Int} {n v : Int} (h : nxL l n = some v) : 0 ≤ n ∧ n < l.length ∧ v ≠ -1 ∧ l.getD n.toNat 0 = v := by
  unfold nxL at h
  split at h
  · rename_i q
    have := Option.some.inj h
    exact ⟨q.1, q.2.1, by rw [← this]; exact q.2.2, this⟩
  · cases h
theorem nxL_neg (l : List Int) : nxL l (-1) = none := by unfold nxL; rw [if_neg (by omega)]

set_option maxHeartbeats 1000000 in
theorem lnext_any (a : Option Addr) (len c : Nat) (l : List Int) (n x : Int) (w : World) (hin : InIn w a len l) (hl : len ≤ 1000) :
    Calls Tryd.prog 69 #[.slice a len c, .int .i64 n, .int .u64 x] w fun e w' => e = .returned (nxV (nxL l n)) ∧ Below w.heap.size w w' := by
  have H : Hid (InIn w a len l) := hin
  have HL : Hid (l.length = len) := hin.1
  clear hin
  by_cases h0 : n < 0
  · have HN : Hid (nxL l n = none) := by show nxL l n = none; unfold nxL; rw [if_neg (by omega)]
    go_enter Tryd.func69, Tryd.ntmps69
    go_wp2
    go_ret2
    exact ⟨by rw [HN.out]; rfl, Below.refl _ _⟩
  · by_cases h1 : n < (len : Int)
    · obtain ⟨k, rfl⟩ : ∃ k : Nat, n = k := ⟨n.toNat, by omega⟩
      have hk : k < len := by omega
      obtain ⟨mb, mo, hmb, hml, _, hmc⟩ := H.out.one (v := Value.int .i64) (fun _ => rfl) (i := k) hk
      subst hmb
      obtain ⟨y, hy⟩ : ∃ y, y = l.getD k 0 := ⟨_, rfl⟩
      rw [← hy] at hmc
      have hk0 : (0 : Int) ≤ (k : Int) := by omega
      by_cases hv : y = -1
      · have e1 : (y == -1) = true := by simpa using hv
        have HN : Hid (nxL l k = none) := by show nxL l k = none; unfold nxL; rw [if_neg (fun z => z.2.2 (by rw [Int.toNat_natCast, ← hy]; exact hv))]
        clear hv hy h0
        go_enter Tryd.func69, Tryd.ntmps69
        go_wp2
        go_ret2
        exact ⟨by rw [HN.out]; rfl, Below.refl _ _⟩
      · have e1 : (y == -1) = false := by simpa using hv
        have HN : Hid (nxL l k = some y) := by
          show nxL l k = some y
          unfold nxL
          rw [if_pos ⟨by omega, by rw [HL.out]; omega, by rw [Int.toNat_natCast, ← hy]; exact hv⟩, Int.toNat_natCast, ← hy]
        clear hv hy h0
        go_enter Tryd.func69, Tryd.ntmps69
        go_wp2
        go_ret2
        exact ⟨by rw [HN.out]; rfl, Below.refl _ _⟩
    · have HN : Hid (nxL l n = none) := by show nxL l n = none; unfold nxL; rw [if_neg (by rw [HL.out]; omega)]
      go_enter Tryd.func69, Tryd.ntmps69
      go_wp2
      go_ret2
      exact ⟨by rw [HN.out]; rfl, Below.refl _ _⟩
theorem mth_list (a : Option Addr) (len c : Nat) (w : World) : (method 241 30 (.slice a len c) "Next").run Tryd.prog w = .ok (69, .slice a len c) w := by kernel_rfl
theorem ent_list (args : Array Value) (w : World) : (callFunc 69 args).run Tryd.prog w = .ok (.enter 69 args) w := by kernel_rfl
theorem wk_list (w : World) (a : Option Addr) (len c : Nat) (l : List Int) (x : Int) (hin : InIn w a len l) (hl : len ≤ 1000) : Wk w 30 (.slice a len c) 69 x (nxL l) :=
  ⟨mth_list a len c, ent_list, fun W n hW => lnext_any a len c l n x W (hin.below (Nat.le_refl _) hW) hl⟩
end Go.Proofs.YtefaigdanoninaaDoor
