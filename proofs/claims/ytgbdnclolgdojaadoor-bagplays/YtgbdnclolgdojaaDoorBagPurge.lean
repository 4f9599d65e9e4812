/- bag.Purge: the closure, slices.IndexFunc, slices.DeleteFunc. -/
import Derived.Test.YtgbdnclolgdojaaDoorBagAwake
namespace Go.Proofs.YtgbdnclolgdojaaDoor
open Go.ChangeShapes Go.WideShapes Go.ChangeAt Go.RowKit
set_option linter.unusedVariables false

theorem enter_purge1 : ∀ args w, (callFunc 38 args).run Tryd.prog w = .ok (.enter 38 args) w := fun args w => by
  kernel_rfl

theorem purge1_any (q : Pk) (bt : Nat) (to' : Int) (W : World) (h : W.cell? ⟨bt, 0, none⟩ = some (.int .i64 to')) (hlt : bt < W.heap.size) :
    Calls Tryd.prog 38 (#[.agg #[.int .i64 q.id, .int .i64 q.src, .int .i64 q.dst, .string q.s]] ++ #[.pointer (some ⟨bt, 0, none⟩)]) W fun e w' => e = .returned (.bool (q.dst == to')) ∧ Below W.heap.size W w' := by
  go_enter Tryd.func38, Tryd.ntmps38
  go_wp2
  go_ret
  exact ⟨rfl, (Below.refl _ _).alloc (Nat.le_refl _) _⟩

set_option maxHeartbeats 1000000 in
set_option maxRecDepth 100000 in
/-- slices.IndexFunc: the first packet to an address. -/
theorem index_any (gg n c bt : Nat) (to' : Int) (ps : List Pk) (w : World) (hn : ps.length = n) (hbig : n ≤ 4000) (R : PkRow w gg ps) (hlt : bt < w.heap.size) (h : w.cell? ⟨bt, 0, none⟩ = some (.int .i64 to')) :
    Calls Tryd.prog 55 #[.slice (some ⟨gg, 0, none⟩) n c, .func (.func 38) #[] #[.pointer (some ⟨bt, 0, none⟩)]] w
      fun e w' => ((e = .returned (.int .i64 (-1)) ∧ ∀ t, t < n → (ps.getD t pk0).dst ≠ to') ∨ ∃ r : Nat, r < n ∧ e = .returned (.int .i64 r) ∧ (ps.getD r pk0).dst = to' ∧ ∀ t, t < r → (ps.getD t pk0).dst ≠ to') ∧ Below w.heap.size w w' := by
  have eg := enter_purge1
  have HR : Hid (PkRow w gg ps ∧ ps.length = n) := ⟨R, hn⟩
  have hglt := R.lt
  clear R hn
  go_enter Tryd.func55, Tryd.ntmps55
  go_wp2
  go_loopw [5, 8] (fun _ y wr => ∃ k : Nat, k ≤ n ∧ y = .int .i64 k ∧ Hid (Below w.heap.size w wr) ∧ Hid (∀ t, t < k → (ps.getD t pk0).dst ≠ to')) (fun _ y _ => n - (intOf y).toNat)
  case atStart => exact ⟨0, Nat.zero_le _, rfl, (Below.refl _ _ : Below w.heap.size w w), ((fun t ht => absurd ht (Nat.not_lt_zero _)) : ∀ t, t < 0 → (ps.getD t pk0).dst ≠ to')⟩
  case round =>
    obtain ⟨k, hk, rfl, HB, HA⟩ := hrel
    by_cases hlt2 : k < n
    · have hk0 : (0 : Int) ≤ (k : Int) := Int.natCast_nonneg _
      have hk1 : (k : Int) < (n : Int) := by omega
      have hkl : k < ps.length := by rw [HR.out.2]; exact hlt2
      have R := HR.out.1
      have s0 := (bcell HB.out gg (k * 4) hglt).trans (R.c0 k hkl)
      have s1 := (bcell HB.out gg (k * 4 + 1) hglt).trans (R.c1 k hkl)
      have s2 := (bcell HB.out gg (k * 4 + 2) hglt).trans (R.c2 k hkl)
      have s3 := (bcell HB.out gg (k * 4 + 3) hglt).trans (R.c3 k hkl)
      have hcall := purge1_any (ps.getD k pk0) bt to' wr ((bcell HB.out bt 0 hlt).trans h) (by have := HB.out.size; omega)
      obtain ⟨q, hq⟩ : ∃ q, q = ps.getD k pk0 := ⟨_, rfl⟩
      rw [← hq] at s0 s1 s2 s3 hcall
      have HQ : Hid (q = ps.getD k pk0) := hq
      clear hq R
      by_cases hd : q.dst = to'
      · have hd' : (q.dst == to') = true := by simpa using hd
        rw [hd'] at hcall
        have HD : Hid (q.dst = to') := hd
        clear hd hd'
        go_wp2_with fail
        refine hcall.mono ?_
        rintro e w2 ⟨rfl, hb2⟩
        have H2 : Hid (Below w.heap.size w w2) := HB.out.trans (hb2.mono HB.out.size)
        clear hb2
        go_wp2
        go_ret
        exact ⟨.inr ⟨k, hlt2, rfl, by rw [← HQ.out]; exact HD.out, HA.out⟩, H2.out⟩
      · have hd' : (q.dst == to') = false := by simpa using hd
        rw [hd'] at hcall
        have HD : Hid (q.dst ≠ to') := hd
        clear hd hd'
        go_wp2_with fail
        refine hcall.mono ?_
        rintro e w2 ⟨rfl, hb2⟩
        have H2 : Hid (Below w.heap.size w w2) := HB.out.trans (hb2.mono HB.out.size)
        clear hb2
        go_wp2
        go_roundw
        case rel =>
          have HA2 : Hid (∀ t, t < k + 1 → (ps.getD t pk0).dst ≠ to') := by
            intro t ht
            by_cases e : t = k
            · subst e; rw [← HQ.out]; exact HD.out
            · exact HA.out t (by omega)
          exact ⟨k + 1, by omega, by go_num, H2, HA2⟩
        case measure => simp [intOf]; omega
    · obtain rfl : k = n := by omega
      go_wp2
      go_ret
      exact ⟨.inl ⟨rfl, HA.out⟩, HB.out⟩
end Go.Proofs.YtgbdnclolgdojaaDoor
