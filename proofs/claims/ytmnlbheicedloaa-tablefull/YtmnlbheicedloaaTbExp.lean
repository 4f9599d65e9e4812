/- table.Expire; Put into a full table. -/
import Derived.Test.YtmnlbheicedloaaTbTake
import Derived.Test.YtmnlbheicedloaaTbAwake
import Derived.Deep.RegionHeld3
namespace Go.Proofs.Ytmnlbheicedloaa
open Go.ChangeShapes Go.WideShapes Go.ChangeAt Go.RowKit
set_option linter.unusedVariables false

theorem enter_expire : ∀ args w, (callFunc 29 args).run Try.prog w = .ok (.enter 29 args) w := fun args w => by
  kernel_rfl
set_option maxHeartbeats 1000000 in
theorem expire1_any (x : Ep) (b1 : Nat) (t : Int) (w : World) (h1 : w.cell? ⟨b1, 0, none⟩ = some (.int .i64 t)) :
    Calls Try.prog 29 (#[.agg #[.string x.gr, .int .i64 x.ch, .slice x.a x.ln x.cp, .bool x.any, .int .i64 x.till]] ++ #[.pointer (some ⟨b1, 0, none⟩)]) w fun e w' => e = .returned (.bool (decide (x.till < t))) ∧ Below w.heap.size w w' := by
  obtain ⟨W1, hW1⟩ : ∃ W1, W1 = w.alloc (.cells #[.string x.gr, .int .i64 x.ch, .slice x.a x.ln x.cp, .bool x.any, .int .i64 x.till] 32) := ⟨_, rfl⟩
  have B1 : Hid (Below w.heap.size w W1) := by rw [hW1]; exact (Below.refl _ _).alloc (Nat.le_refl _) _
  have y0 : W1.cell? ⟨w.heap.size, 4, none⟩ = some (.int .i64 x.till) := by rw [hW1]; simp
  have y1 := cgE h1 B1.out
  have l1 : b1 < W1.heap.size := World.block_lt_of_cell? _ _ y1
  have l0 : w.heap.size < W1.heap.size := World.block_lt_of_cell? _ _ y0
  clear h1
  go_enter Try.func29, Try.ntmps29
  go_upto_region 1 with fail
  rw [← hW1]
  clear hW1
  go_wp2
  go_ret
  exact ⟨by simp, B1.out⟩

/-- Those whose tick is over. -/
def pastB (t : Int) (x : Ep) : Bool := decide (x.till < t)
set_option maxHeartbeats 1000000 in
theorem expire_any (B r : Nat) (v : Value) (X : List Ep) (t : Int) (w : World) (h : Tb w B r v X) (hB : B ≤ w.heap.size) :
    Calls Try.prog 15 #[.pointer (some ⟨r, 0, none⟩), .int .i64 t] w fun e w' => e = .returned (.int .i64 (X.filter (pastB t)).length) ∧ ∃ v2, Tb w' B r v2 (X.filter (fun x => !pastB t x)) ∧ KT w w' r v v2 := by
  obtain ⟨W1, hW1⟩ : ∃ W1, W1 = w.alloc (.cells #[.int .i64 t] 3) := ⟨_, rfl⟩
  have b1 : Below w.heap.size w W1 := by rw [hW1]; exact (Below.refl _ _).alloc (Nat.le_refl _) _
  have y1 : W1.cell? ⟨w.heap.size, 0, none⟩ = some (.int .i64 t) := by rw [hW1]; simp
  have ht := take_any 29 #[.pointer (some ⟨w.heap.size, 0, none⟩)] (pastB t) B r v X W1 enter_expire (h.below b1) (Nat.le_trans hB b1.size)
    (fun W x hxm hb => expire1_any x _ t W (cgE y1 hb))
  have HT : Hid _ := ht
  have HB : Hid _ := b1
  clear ht b1 y1
  go_enter Try.func15, Try.ntmps15
  go_wp2_with fail
  rw [← hW1]
  clear hW1
  refine Calls.mono HT.out ?_
  rintro e w2 ⟨a', c, v2, rfl, h1, h2, h3⟩
  go_wp2
  go_ret
  exact ⟨rfl, v2, h1, (KT.ofBelow HB.out).trans h2⟩
theorem OwnT.expire {B : Nat} {w0 w : World} {r : Nat} {X : List Ep} (h : OwnT B w0 w r X) (t : Int) :
    Calls Try.prog 15 #[.pointer (some ⟨r, 0, none⟩), .int .i64 t] w fun e w' => e = .returned (.int .i64 (X.filter (pastB t)).length) ∧ OwnT B w0 w' r (X.filter (fun x => !pastB t x)) := by
  obtain ⟨v, hv⟩ := h.tab
  refine (expire_any B r v X t w hv h.size).mono ?_
  rintro e w' ⟨rfl, v2, h1, h2⟩
  exact ⟨rfl, ⟨v2, h1⟩, h.bel.trans (h2.below hv.lo hv.vlo h.size), Nat.le_trans h.size h2.size⟩
end Go.Proofs.Ytmnlbheicedloaa
