/- bag.Take, bag.Copy. -/
import Derived.Test.YtgbdnclolgdojaaDoorBagTake
namespace Go.Proofs.YtgbdnclolgdojaaDoor
open Go.ChangeShapes Go.WideShapes Go.ChangeAt Go.RowKit
set_option linter.unusedVariables false

theorem BagAt.pkat {B : Nat} {w : World} {p : Nat} {v : Value} {g : Bg} (h : BagAt B w p v g) (k : Nat) (hk : k < g.ps.length) :
    ∃ gg c, v = .slice (some ⟨gg, 0, none⟩) g.ps.length c ∧ PkRow w gg g.ps := by
  rcases pkrow_of h.row with ⟨a, c, rfl, hn⟩ | ⟨gg, c, rfl, hBg, hpos, R, hob⟩
  · rw [hn] at hk; simp at hk
  · exact ⟨gg, c, rfl, R⟩

/-- Behind a deletion and its store. -/
theorem BagAt.deleted {B : Nat} {w w1 : World} {p : Nat} {v v' : Value} {g : Bg} {k : Nat} (h : BagAt B w p v g) (hk : k < g.ps.length)
    (hrow : w1.ownsRow B 41 4 v' (g.ps.length - 1) ((g.ps.eraseIdx k).flatMap Pk.cells)) (hg : w.grownBy w1 v.ownBlock) (ho : v'.ownBlock = v.ownBlock) :
    BagAt B (w1.setCell ⟨p, 0, none⟩ v') p v' (g.del k) ∧ Kept w (w1.setCell ⟨p, 0, none⟩ v') p v v' ∧ w1.heap[p]? = some (.cells #[v, .int .i64 g.last] 25 (0, 0)) := by
  have hb : w1.heap[p]? = some (.cells #[v, .int .i64 g.last] 25 (0, 0)) := (hg.block p h.lt (fun e => h.apart e.symm)).trans h.box
  have hap : v'.ownBlock ≠ some p := by rw [ho]; exact h.apart
  refine ⟨⟨h.lo, two_set0 hb v', ?_, hap⟩, ⟨hg.os, hg.tape, hg.output, by simp [World.setCell]; exact hg.size, fun j hj hjp hjv => ?_, fun j hj => .inl (by rw [← ho]; exact hj)⟩, hb⟩
  · have := ownsRow_setCell_other hrow (a := ⟨p, 0, none⟩) hap v'
    have e : (g.del k).ps.length = g.ps.length - 1 := by show (g.ps.eraseIdx k).length = _; rw [List.length_eraseIdx_of_lt hk]
    rw [e]
    exact this
  · rw [Below.heap_setCell _ _ _ _ (by simpa using hjp)]
    exact hg.block j hj hjv

theorem BagAt.other {B : Nat} {w : World} {p : Nat} {v : Value} {g : Bg} (h : BagAt B w p v g) (a : Addr) (u : Value) (hp : a.block ≠ p) (hv : v.ownBlock ≠ some a.block) : BagAt B (w.setCell a u) p v g :=
  ⟨h.lo, (Below.heap_setCell _ _ _ _ (by simpa using hp.symm)).trans h.box, ownsRow_setCell_other h.row hv u, h.apart⟩
theorem Kept.other {w w' : World} {p : Nat} {v v' : Value} (h : Kept w w' p v v') (a : Addr) (u : Value) (ha : w.heap.size ≤ a.block) : Kept w (w'.setCell a u) p v v' :=
  ⟨h.os, h.tape, h.output, by simp [World.setCell]; exact h.size, fun k hk hp hv => (Below.heap_setCell _ _ _ _ (by simp; omega)).trans (h.block k hk hp hv), h.own⟩

theorem four_block {w : World} {b : Nat} {a0 a1 a2 a3 : Value} {t : TypeId} (h : w.heap[b]? = some (.cells #[a0, a1, a2, a3] t (0, 0))) :
    w.cell? ⟨b, 0, none⟩ = some a0 ∧ w.cell? ⟨b, 1, none⟩ = some a1 ∧ w.cell? ⟨b, 2, none⟩ = some a2 ∧ w.cell? ⟨b, 3, none⟩ = some a3 ∧ ∀ o, w.frozen? ⟨b, o, none⟩ = false := by
  simp [World.cell?, World.frozen?, h]

set_option maxRecDepth 100000 in
set_option maxHeartbeats 1000000 in
theorem take_miss (B p : Nat) (v : Value) (g : Bg) (id : Int) (w : World) (h : BagAt B w p v g) (hok : g.ok) (hno : ∀ q ∈ g.ps, q.id ≠ id) :
    Calls Tryd.prog 10 #[.pointer (some ⟨p, 0, none⟩), .int .i64 id] w fun e w' => e = .returned (.tuple #[pk0.val, .iface 38 (.int .i64 9)]) ∧ Below w.heap.size w w' := by
  go_enter Tryd.func10, Tryd.ntmps10
  go_wp2_with fail
  refine (find_miss B p v g id _ (h.alloc _) hok hno).mono ?_
  rintro e w1 ⟨rfl, hb⟩
  have hz : w.heap.size < w1.heap.size := by have := hb.size; simp at this; omega
  have hc := hb.block w.heap.size (by simp)
  rw [heap_alloc_new] at hc
  obtain ⟨c0, c1, c2, c3, cf⟩ := four_block hc
  have HB : Hid (Below w.heap.size w w1) := ((Below.refl _ _).alloc (Nat.le_refl _) _).trans (hb.mono (by simp))
  clear hc hb
  go_wp2
  refine bodyPost_ret (v := .tuple #[.agg #[.int .i64 0, .int .i64 0, .int .i64 0, .string { data := #[] }], .iface 38 (.int .i64 9)]) (by simp [results, Tryd.results10, go_sem, c0, c1, c2, c3]) rfl ⟨rfl, ?_⟩
  exact (((HB.out.setCell (by simp) _).setCell (by simp) _).setCell (by simp) _).setCell (by simp) _

set_option maxRecDepth 100000 in
set_option maxHeartbeats 1000000 in
theorem take_hit (B p : Nat) (v : Value) (g : Bg) (id : Int) (k : Nat) (w : World) (h : BagAt B w p v g) (hok : g.ok) (hk : k < g.ps.length) (hid : (g.ps.getD k pk0).id = id) :
    Calls Tryd.prog 10 #[.pointer (some ⟨p, 0, none⟩), .int .i64 id] w
      fun e w' => e = .returned (.tuple #[(g.ps.getD k pk0).val, .nilIface]) ∧ ∃ v', BagAt B w' p v' (g.del k) ∧ Kept w w' p v v' := by
  have hplt := h.lt
  obtain ⟨gg, c, rfl, R⟩ := h.pkat k hk
  have hglt := R.lt
  have hk0 : (0 : Int) ≤ (k : Int) := Int.natCast_nonneg _
  have hk1 : (k : Int) < (g.ps.length : Int) := by omega
  have hlen := hok.len
  obtain ⟨q, hq⟩ : ∃ q, q = g.ps.getD k pk0 := ⟨_, rfl⟩
  have HQ : Hid (q = g.ps.getD k pk0) := hq
  have HH : Hid (BagAt B w p (.slice (some ⟨gg, 0, none⟩) g.ps.length c) g ∧ PkRow w gg g.ps) := ⟨h, R⟩
  have r0 := R.c0 k hk
  have r1 := R.c1 k hk
  have r2 := R.c2 k hk
  have r3 := R.c3 k hk
  rw [← hq] at r0 r1 r2 r3 hid ⊢
  have hbx := two_c0 h.box
  have hob := h.apart
  have HI : Hid (q.id = id) := hid
  clear R hq hid
  go_enter Tryd.func10, Tryd.ntmps10
  go_wp2_with fail
  refine (find_hit B p _ g id k _ (h.alloc _) hok hk (by rw [← HQ.out]; exact HI.out)).mono ?_
  rintro e w1 ⟨rfl, hb⟩
  have hz : w.heap.size < w1.heap.size := by have := hb.size; simp at this; omega
  have hR := hb.block w.heap.size (by simp)
  rw [heap_alloc_new] at hR
  have h1 := (h.alloc _).below hb
  have HB : Hid (Below w.heap.size w w1) := ((Below.refl _ _).alloc (Nat.le_refl _) _).trans (hb.mono (by simp))
  have s0 := (bcell HB.out gg (k * 4) hglt).trans r0
  have s1 := (bcell HB.out gg (k * 4 + 1) hglt).trans r1
  have s2 := (bcell HB.out gg (k * 4 + 2) hglt).trans r2
  have s3 := (bcell HB.out gg (k * 4 + 3) hglt).trans r3
  have sb := two_c0 h1.box
  have hpz : p < w1.heap.size := by omega
  have HB1 : Hid (BagAt B w1 p (.slice (some ⟨gg, 0, none⟩) g.ps.length c) g) := h1
  clear h h1 hb r0 r1 r2 r3 hbx
  go_wp2_with fail
  refine (delete_any B _ g.ps k _ (HB1.out.alloc _).row hk hlen).mono ?_
  rintro e w3 ⟨v', rfl, hrow, hgr, ho, hs3, a', c', hv'⟩
  obtain ⟨hD, hK, hbx3⟩ := (HB1.out.alloc _).deleted hk hrow hgr ho
  have hR3 := (hgr.block w.heap.size (by simp; omega) (by simp [Value.ownBlock]; omega)).trans ((Below.heap_alloc w1 _ w.heap.size hz).trans hR)
  have hP3 := (hgr.block w1.heap.size (by simp) (by simp [Value.ownBlock]; omega)).trans (heap_alloc_new w1 _)
  obtain ⟨c0, c1, c2, c3, cf⟩ := four_block hR3
  obtain ⟨d0, d1, d2, d3, df⟩ := four_block hP3
  have e0 := two_c0 hbx3
  have ef := two_free hbx3
  have hz3 : w1.heap.size < w3.heap.size := by rw [hs3]; simp
  have hz4 : w.heap.size < w3.heap.size := by omega
  have hz5 : p < w3.heap.size := by omega
  have HX : Hid (BagAt B (w3.setCell ⟨p, 0, none⟩ v') p v' (g.del k) ∧ Kept (w1.alloc (.cells #[.int .i64 q.id, .int .i64 q.src, .int .i64 q.dst, .string q.s] 41)) (w3.setCell ⟨p, 0, none⟩ v') p (.slice (some ⟨gg, 0, none⟩) g.ps.length c) v') := ⟨hD, hK⟩
  have HO : Hid (v'.ownBlock = some gg) := ho
  clear hD hK hrow hgr ho hs3 hR3 hP3 hbx3 s0 s1 s2 s3 sb
  subst hv'
  go_wp2
  refine bodyPost_ret (v := .tuple #[.agg #[.int .i64 q.id, .int .i64 q.src, .int .i64 q.dst, .string q.s], .nilIface]) (by simp [results, Tryd.results10, go_sem, c0, c1, c2, c3]) rfl ⟨rfl, .slice a' (g.ps.length - 1) c', ?_, ?_⟩
  · have hn : (Value.slice a' (g.ps.length - 1) c').ownBlock ≠ some w.heap.size := by rw [HO.out]; simp; omega
    exact (((HX.out.1.other _ _ (by simp; omega) hn).other _ _ (by simp; omega) hn).other _ _ (by simp; omega) hn).other _ _ (by simp; omega) hn
  · have hKK : Kept w (w3.setCell ⟨p, 0, none⟩ (.slice a' (g.ps.length - 1) c')) p _ _ := ((Kept.ofBelow (p := p) HB.out).trans (Kept.ofBelow ((Below.refl _ _).alloc (Nat.le_refl _) _))).trans HX.out.2
    exact (((hKK.other _ _ (by simp)).other _ _ (by simp)).other _ _ (by simp)).other _ _ (by simp)

set_option maxRecDepth 100000 in
set_option maxHeartbeats 1000000 in
theorem copy_miss (B p : Nat) (v : Value) (g : Bg) (id : Int) (w : World) (h : BagAt B w p v g) (hok : g.ok) (hno : ∀ q ∈ g.ps, q.id ≠ id) :
    Calls Tryd.prog 14 #[.pointer (some ⟨p, 0, none⟩), .int .i64 id] w fun e w' => e = .returned (.tuple #[.int .i64 0, .iface 38 (.int .i64 9)]) ∧ Below w.heap.size w w' := by
  go_enter Tryd.func14, Tryd.ntmps14
  go_wp2_with fail
  refine (find_miss B p v g id _ h hok hno).mono ?_
  rintro e w1 ⟨rfl, hb⟩
  have HB : Hid (Below w.heap.size w w1) := hb
  clear hb
  go_wp2
  go_ret2
  exact ⟨rfl, HB.out⟩

set_option maxRecDepth 100000 in
set_option maxHeartbeats 1000000 in
/-- Copy of a packet that is there: what Send answers. -/
theorem copy_hit (B p : Nat) (v : Value) (g : Bg) (id : Int) (k : Nat) (w : World) (h : BagAt B w p v g) (hok : g.ok) (hk : k < g.ps.length) (hid : (g.ps.getD k pk0).id = id)
    {R : Value → World → World → Prop} (hS : ∀ W : World, BagAt B W p v g → w.heap.size ≤ W.heap.size → Calls Tryd.prog 7 #[.pointer (some ⟨p, 0, none⟩), .int .i64 (g.ps.getD k pk0).src, .int .i64 (g.ps.getD k pk0).dst, .string (g.ps.getD k pk0).s] W fun e w' => ∃ x y, e = .returned (.tuple #[x, y]) ∧ R (.tuple #[x, y]) W w') :
    Calls Tryd.prog 14 #[.pointer (some ⟨p, 0, none⟩), .int .i64 id] w fun e w' => ∃ W x y, e = .returned (.tuple #[x, y]) ∧ Below w.heap.size w W ∧ R (.tuple #[x, y]) W w' := by
  have hplt := h.lt
  obtain ⟨gg, c, rfl, R'⟩ := h.pkat k hk
  have hglt := R'.lt
  have hk0 : (0 : Int) ≤ (k : Int) := Int.natCast_nonneg _
  have hk1 : (k : Int) < (g.ps.length : Int) := by omega
  have hlen := hok.len
  obtain ⟨q, hq⟩ : ∃ q, q = g.ps.getD k pk0 := ⟨_, rfl⟩
  have HQ : Hid (q = g.ps.getD k pk0) := hq
  have r0 := R'.c0 k hk
  have r1 := R'.c1 k hk
  have r2 := R'.c2 k hk
  have r3 := R'.c3 k hk
  rw [← hq] at r0 r1 r2 r3 hid hS
  have HI : Hid (q.id = id) := hid
  have HS : Hid _ := hS
  clear R' hq hid hS
  go_enter Tryd.func14, Tryd.ntmps14
  go_wp2_with fail
  refine (find_hit B p _ g id k _ h hok hk (by rw [← HQ.out]; exact HI.out)).mono ?_
  rintro e w1 ⟨rfl, hb⟩
  have hz := hb.size
  have h1 := h.below hb
  have HB : Hid (Below w.heap.size w w1) := hb
  have s0 := (bcell HB.out gg (k * 4) hglt).trans r0
  have s1 := (bcell HB.out gg (k * 4 + 1) hglt).trans r1
  have s2 := (bcell HB.out gg (k * 4 + 2) hglt).trans r2
  have s3 := (bcell HB.out gg (k * 4 + 3) hglt).trans r3
  have sb := two_c0 h1.box
  have hpz : p < w1.heap.size := by omega
  have HB1 : Hid (BagAt B w1 p (.slice (some ⟨gg, 0, none⟩) g.ps.length c) g) := h1
  clear h h1 hb r0 r1 r2 r3
  go_wp2_with fail
  refine (HS.out _ (HB1.out.alloc _) (by simp; omega)).mono ?_
  rintro e w3 ⟨x, y, rfl, hR⟩
  have HRR : Hid _ := hR
  clear hR
  go_wp2
  go_ret2
  exact ⟨_, x, y, rfl, HB.out.trans ((Below.refl _ _).alloc hz _), HRR.out⟩
end Go.Proofs.YtgbdnclolgdojaaDoor
