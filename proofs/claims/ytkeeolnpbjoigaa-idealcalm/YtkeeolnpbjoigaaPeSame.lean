/- slices.Equal at ints; peer.Same. -/
import Derived.Test.YtkeeolnpbjoigaaPrInts
import Derived.Test.YtkeeolnpbjoigaaChRing
import Derived.Deep.CutBlock
import Derived.Deep.DeepCutAuto
namespace Go.Proofs.Ytkeeolnpbjoigaa
open Go.ChangeShapes Go.WideShapes Go.ChangeAt Go.RowKit Go.Deep
set_option linter.unusedVariables false


set_option maxHeartbeats 1000000 in
theorem equal_i (a : Option Addr) (n c : Nat) (l : List Int) (b : Option Addr) (m d : Nat) (k : List Int) (w : World) (hl : InIn w a n l) (hk : InIn w b m k) :
    Calls Try.prog 50 #[.slice a n c, .slice b m d] w fun e w' => e = .returned (.bool (intsB l k)) ∧ Below w.heap.size w w' := by
  have HL : Hid (InIn w a n l) := hl
  have HK : Hid (InIn w b m k) := hk
  have h1 := hl.2.1
  have h2 := hk.2.1
  clear hl hk
  by_cases q : n = m
  · subst q
    have hq : ((n : Int) != (n : Int)) = false := by simp
    go_enter Try.func50, Try.ntmps50
    go_wp2
    go_loopg [13] n (fun kx s wr => ∃ j : Nat, s = .int .i64 j ∧ j ≤ n ∧ kx = n - j ∧ Hid (Below w.heap.size w wr) ∧ Hid (∀ i, i < j → l.getD i 0 = k.getD i 0))
    case atStart => exact ⟨0, rfl, Nat.zero_le _, rfl, (Below.refl _ _ : Below w.heap.size w w), (fun i hi => absurd hi (Nat.not_lt_zero _) : ∀ i, i < 0 → l.getD i 0 = k.getD i 0)⟩
    case round =>
      obtain ⟨j, rfl, hj, rfl, HB, I⟩ := hrel
      by_cases hlt : j < n
      · obtain ⟨b1, o1, rfl, hb1, _, hc1⟩ := (HL.out.below (Nat.le_refl _) HB.out).one (v := Value.int .i64) (fun _ => rfl) (i := j) hlt
        obtain ⟨b2, o2, rfl, hb2, _, hc2⟩ := (HK.out.below (Nat.le_refl _) HB.out).one (v := Value.int .i64) (fun _ => rfl) (i := j) hlt
        by_cases hx : l.getD j 0 = k.getD j 0
        · have HX : Hid _ := hx
          have I' : Hid (∀ i, i < j + 1 → l.getD i 0 = k.getD i 0) := fun i hi => by
            by_cases e : i = j
            · rw [e]; exact hx
            · exact I.out i (by omega)
          rw [← hx] at hc2
          generalize l.getD j 0 = x at hc1 hc2
          have hne : (x != x) = false := by simp
          clear hx
          go_wp2_with (go_quiet (fail))
          go_roundg (n - (j + 1))
          case measure => omega
          case rel => exact ⟨j + 1, by go_num, by omega, rfl, below_drew HB.out _, I'⟩
        · have HX : Hid (intsB l k = false) := ints_at j hx
          generalize l.getD j 0 = x at hc1 hx
          generalize k.getD j 0 = y at hc2 hx
          have hne : (x != y) = true := by simpa using hx
          go_wp2_with (go_quiet (fail))
          go_ret
          exact ⟨ret_b HX.out.symm, below_drew HB.out _⟩
      · go_wp2
        go_ret
        exact ⟨ret_b (ints_all (by rw [HL.out.1, HK.out.1]) (fun i hi => I.out i (by have := HL.out.1; omega))).symm, HB.out⟩
  · have E : Hid (intsB l k = false) := ints_no (by rw [HL.out.1, HK.out.1]; exact q)
    have hq : ((n : Int) != (m : Int)) = true := by simp; omega
    go_enter Try.func50, Try.ntmps50
    go_wp2
    go_ret
    exact ⟨ret_b E.out.symm, Below.refl _ _⟩

/-- Do two know the same? -/
def peB (a b : Pe) : Bool := a.id == b.id && (a.pred == b.pred && intsB a.succ b.succ)
set_option maxHeartbeats 2000000 in
theorem same_any (p q : Pe) (a b : Option Addr) (n m c d : Nat) (w : World) (hl : InIn w a n p.succ) (hk : InIn w b m q.succ) :
    Calls Try.prog 32 #[.agg #[.int .u64 p.id, .int .i64 p.pred, .slice a n c], .agg #[.int .u64 q.id, .int .i64 q.pred, .slice b m d]] w fun e w' => e = .returned (.bool (peB p q)) ∧ Below w.heap.size w w' := by
  obtain ⟨W1, hW1⟩ : ∃ W1, W1 = (w.alloc (.cells #[.int .u64 p.id, .int .i64 p.pred, .slice a n c] 51)).alloc (.cells #[.int .u64 q.id, .int .i64 q.pred, .slice b m d] 51) := ⟨_, rfl⟩
  have b1 : Below w.heap.size w W1 := by rw [hW1]; exact (below_one _ _).trans ((below_one _ _).mono (by simp))
  have e0 : W1.heap[w.heap.size]? = some (.cells #[.int .u64 p.id, .int .i64 p.pred, .slice a n c] 51 (0, 0)) := by rw [hW1, Below.heap_alloc _ _ _ (by simp)]; exact heap_alloc_new w _
  have e1 : W1.heap[w.heap.size + 1]? = some (.cells #[.int .u64 q.id, .int .i64 q.pred, .slice b m d] 51 (0, 0)) := by
    rw [hW1]; simpa using heap_alloc_new (w.alloc (.cells #[.int .u64 p.id, .int .i64 p.pred, .slice a n c] 51)) (.cells #[.int .u64 q.id, .int .i64 q.pred, .slice b m d] 51)
  have x0 : W1.cell? ⟨w.heap.size, 0, none⟩ = some (.int .u64 p.id) := by simp [World.cell?, e0]
  have x1 : W1.cell? ⟨w.heap.size, 1, none⟩ = some (.int .i64 p.pred) := by simp [World.cell?, e0]
  have x2 : W1.cell? ⟨w.heap.size, 2, none⟩ = some (.slice a n c) := by simp [World.cell?, e0]
  have y0 : W1.cell? ⟨w.heap.size + 1, 0, none⟩ = some (.int .u64 q.id) := by simp [World.cell?, e1]
  have y1 : W1.cell? ⟨w.heap.size + 1, 1, none⟩ = some (.int .i64 q.pred) := by simp [World.cell?, e1]
  have y2 : W1.cell? ⟨w.heap.size + 1, 2, none⟩ = some (.slice b m d) := by simp [World.cell?, e1]
  have z0 := cell_block x0
  have z1 := cell_block y0
  have HB : Hid (Below w.heap.size w W1) := b1
  have HL : Hid (InIn W1 a n p.succ ∧ InIn W1 b m q.succ) := ⟨hl.below (Nat.le_refl _) b1, hk.below (Nat.le_refl _) b1⟩
  have HP : Hid (peB p q = (p.id == q.id && (p.pred == q.pred && intsB p.succ q.succ))) := rfl
  clear b1 e0 e1 hl hk
  obtain ⟨i1, p1, s1⟩ := p
  obtain ⟨i2, p2, s2⟩ := q
  simp only at x0 x1 y0 y1 HL HP hW1
  cases hi : i1 == i2
  · rw [hi] at HP
    go_enter Try.func32, Try.ntmps32
    go_upto_region 1 with fail
    rw [← hW1]
    clear hW1
    go_wp2
    go_ret
    exact ⟨ret_b (by rw [HP.out]; rfl), HB.out⟩
  · rw [hi] at HP
    cases hp : p1 == p2
    · rw [hp] at HP
      go_enter Try.func32, Try.ntmps32
      go_upto_region 1 with fail
      rw [← hW1]
      clear hW1
      go_wp2
      go_ret
      exact ⟨ret_b (by rw [HP.out]; rfl), HB.out⟩
    · rw [hp] at HP
      go_enter Try.func32, Try.ntmps32
      go_upto_region 1 with fail
      rw [← hW1]
      clear hW1
      go_wp2_with (go_at_call 50; refine (equal_i a n c s1 b m d s2 _ HL.out.1 HL.out.2).mono ?_; rintro e w' ⟨rfl, hb'⟩)
      go_ret
      exact ⟨ret_b (by rw [HP.out]; rfl), HB.out.trans (hb'.mono HB.out.size)⟩
end Go.Proofs.Ytkeeolnpbjoigaa
