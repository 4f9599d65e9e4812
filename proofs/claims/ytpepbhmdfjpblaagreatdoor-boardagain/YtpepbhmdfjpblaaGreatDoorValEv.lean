/- wigwaglaw05.Event: an event of at most six values, and its values as the document's. -/
import Derived.Test.YtpepbhmdfjpblaaGreatDoorValPreds
namespace Go.Proofs.YtpepbhmdfjpblaaGreatDoor
open Go.ChangeShapes Go.WideShapes Go.ChangeAt Go.RowKit
set_option linter.unusedVariables false

def cutV (a : Vl) : Vl := ⟨a.num, cut a.str 50⟩
theorem Tryz.infoVl : (Tryz.prog.info? 87).map (fun i => (i.zero, i.size, i.bytes)) = some (some (.agg #[.int .i64 0, .string ByteArray.empty]), 2, 24) := by kernel_rfl
theorem Tryz.infoRVl : (Tryz.prog.info? 72).map (fun i => (i.zero, i.size, i.bytes)) = some (some (.agg #[.int .i64 0, .string ByteArray.empty]), 2, 24) := by kernel_rfl
theorem src_Vl (w : World) (q : Vl) (x : Nat) (hx : x = w.heap.size) :
    Src Tryz.prog 2 42 (.slice (some ⟨x, 0, none⟩) 1 1) 1 q.cells (w.alloc (.cells #[.int .i64 q.num, .string q.str] 87)) :=
  Src.ofSlice _ Tryz.underlying42 _ 1 1 _ rfl (fun j u hu => by
    subst hx
    have := World.news_of_block (cs := #[.int .i64 q.num, .string q.str]) (t := 87) (fr := (0, 0)) (heap_alloc_new w _) j u (by simpa [Vl.cells] using hu)
    exact this) (by simp [Vl.cells, Value.oneCell'])
theorem src_RVl (w : World) (q : Vl) (x : Nat) (hx : x = w.heap.size) :
    Src Tryz.prog 2 60 (.slice (some ⟨x, 0, none⟩) 1 1) 1 q.cells (w.alloc (.cells #[.int .i64 q.num, .string q.str] 72)) :=
  Src.ofSlice _ Tryz.underlying60 _ 1 1 _ rfl (fun j u hu => by
    subst hx
    have := World.news_of_block (cs := #[.int .i64 q.num, .string q.str]) (t := 72) (fr := (0, 0)) (heap_alloc_new w _) j u (by simpa [Vl.cells] using hu)
    exact this) (by simp [Vl.cells, Value.oneCell'])
theorem cutV_snoc (t : List Vl) (i : Nat) (hi : i < t.length) : ((t.take (i + 1)).map cutV).flatMap Vl.cells = ((t.take i).map cutV).flatMap Vl.cells ++ (cutV (t.getD i vl0)).cells := by
  rw [List.take_succ_eq_append_getElem hi, List.map_append, List.flatMap_append]
  simp [hi]

/-- An event that is being made: its box p, its row v1, the document's row v2. -/
structure Ev (B : Nat) (w0 w : World) (p : Nat) (pay : ByteArray) (v1 v2 : Value) (n1 n2 : Nat) (xs1 xs2 : List Value) : Prop where
  r1 : w.ownsRow B 87 2 v1 n1 xs1
  r2 : w.ownsRow B 72 2 v2 n2 xs2
  ap : ∀ b, v1.ownBlock = some b → v2.ownBlock ≠ some b
  box : w.heap[p]? = some (.cells #[v1, .string pay] 44 (0, 0))
  a1 : v1.ownBlock ≠ some p
  a2 : v2.ownBlock ≠ some p
  lo : B ≤ p
  bel : Below B w0 w
  le : B ≤ w.heap.size
section
variable {B : Nat} {w0 w W2 : World} {p : Nat} {pay : ByteArray} {v1 v2 v' : Value} {n1 n2 m : Nat} {xs1 xs2 ys : List Value}
theorem Ev.lt (h : Ev B w0 w p pay v1 v2 n1 n2 xs1 xs2) : p < w.heap.size := lt_of_block h.box
theorem Ev.carry {w' : World} (h : Ev B w0 w p pay v1 v2 n1 n2 xs1 xs2) (hb : Below w.heap.size w w') : Ev B w0 w' p pay v1 v2 n1 n2 xs1 xs2 :=
  ⟨own_carry h.r1 hb, own_carry h.r2 hb, h.ap, (hb.block p h.lt).trans h.box, h.a1, h.a2, h.lo, h.bel.trans (hb.mono h.le), Nat.le_trans h.le hb.size⟩
/-- The first row behind an append, ahead of the store. -/
theorem Ev.box2 (h : Ev B w0 w p pay v1 v2 n1 n2 xs1 xs2) (g : w.grownBy W2 v1.ownBlock) : W2.heap[p]? = some (.cells #[v1, .string pay] 44 (0, 0)) :=
  (g.block p h.lt (fun e => h.a1 e.symm)).trans h.box
theorem Ev.step1 (h : Ev B w0 w p pay v1 v2 n1 n2 xs1 xs2) (r : W2.ownsRow B 87 2 v' m ys) (g : w.grownBy W2 v1.ownBlock) (nw : ∀ j, v'.ownBlock = some j → v1.ownBlock = some j ∨ w.heap.size ≤ j) :
    Ev B w0 (W2.setCell ⟨p, 0, none⟩ v') p pay v' v2 m n2 ys xs2 := by
  have hp := h.lt
  have q2 : W2.ownsRow B 72 2 v2 n2 xs2 := own_keep h.r2 _ g (fun b hb e => h.ap b e hb)
  have a1' : v'.ownBlock ≠ some p := fun e => by
    rcases nw p e with q | q
    · exact h.a1 q
    · omega
  have hb2 := h.box2 g
  have hset : (W2.setCell ⟨p, 0, none⟩ v').heap[p]? = some (.cells #[v', .string pay] 44 (0, 0)) := by
    have hlt := lt_of_block hb2
    have h' : W2.heap[p] = .cells #[v1, .string pay] 44 (0, 0) := by simpa [Array.getElem?_eq_getElem hlt] using hb2
    show (W2.heap.modify p _)[p]? = _
    rw [Array.getElem?_eq_getElem (by simpa using hlt), Array.getElem_modify_self, h']
    rfl
  have bb := grown_below h.bel h.le h.r1 g
  refine ⟨ownsRow_setCell_other r (a := ⟨p, 0, none⟩) a1' v', ownsRow_setCell_other q2 (a := ⟨p, 0, none⟩) h.a2 v', fun b hb e => ?_, hset, a1', h.a2, h.lo, bb.setCell (by have := h.lo; exact this) _, ?_⟩
  · rcases nw b hb with q | q
    · exact h.ap b q e
    · have := (h.r2.lt b e).2; omega
  · have := h.le; have := g.size; simp [World.setCell]; omega
theorem Ev.step2 (h : Ev B w0 w p pay v1 v2 n1 n2 xs1 xs2) (r : W2.ownsRow B 72 2 v' m ys) (g : w.grownBy W2 v2.ownBlock) (nw : ∀ j, v'.ownBlock = some j → v2.ownBlock = some j ∨ w.heap.size ≤ j) :
    Ev B w0 W2 p pay v1 v' n1 m xs1 ys := by
  have hp := h.lt
  have q1 : W2.ownsRow B 87 2 v1 n1 xs1 := own_keep h.r1 _ g (fun b hb e => h.ap b hb e)
  refine ⟨q1, r, fun b hb e => ?_, (g.block p hp (fun e => h.a2 e.symm)).trans h.box, h.a1, fun e => ?_, h.lo, grown_below h.bel h.le h.r2 g, Nat.le_trans h.le g.size⟩
  · rcases nw b e with q | q
    · exact h.ap b hb q
    · have := (h.r1.lt b hb).2; omega
  · rcases nw p e with q | q
    · exact h.a2 q
    · omega
theorem Ev.keep1 {b : Nat} (h : Ev B w0 w p pay v1 v2 n1 n2 xs1 xs2) (hb : v1.ownBlock ≠ some b) (hlt : b < w.heap.size) (g : w.grownBy W2 v1.ownBlock) : W2.heap[b]? = w.heap[b]? := g.block b hlt (fun e => hb e.symm)
end

theorem own_baseV {B B' : Nat} {w : World} {e : TypeId} {k n : Nat} {v : Value} {xs : List Value} (h : w.ownsRow B e k v n xs) (hb : B' ≤ B) : w.ownsRow B' e k v n xs := by
  refine ⟨h.1, ?_⟩
  rcases h.2 with h1 | ⟨g', cap, cur, hv, hbg, hr⟩
  · exact .inl h1
  · exact .inr ⟨g', cap, cur, hv, Nat.le_trans hb hbg, hr⟩
/-- The event is laid down as the answer. -/
theorem Ev.done {B : Nat} {w00 w0 w : World} {p q : Nat} {pay : ByteArray} {v1 v2 x y : Value} {n1 n2 : Nat} {xs1 xs2 : List Value} (h : Ev B w0 w p pay v1 v2 n1 n2 xs1 xs2) (hB : w00.heap.size ≤ q) (hq : q < B) (hw : w00.heap.size ≤ B) (hb : Below w00.heap.size w00 w0) :
    ((w.setCell ⟨q, 0, none⟩ x).setCell ⟨q, 1, none⟩ y).ownsRow w00.heap.size 87 2 v1 n1 xs1 ∧
    ((w.setCell ⟨q, 0, none⟩ x).setCell ⟨q, 1, none⟩ y).ownsRow w00.heap.size 72 2 v2 n2 xs2 ∧
    (∀ b, v1.ownBlock = some b → v2.ownBlock ≠ some b) ∧ Below w00.heap.size w00 ((w.setCell ⟨q, 0, none⟩ x).setCell ⟨q, 1, none⟩ y) := by
  have n1' : v1.ownBlock ≠ some q := fun e => by have := (h.r1.lt q e).1; omega
  have n2' : v2.ownBlock ≠ some q := fun e => by have := (h.r2.lt q e).1; omega
  exact ⟨own_baseV (ownsRow_setCell_other (ownsRow_setCell_other h.r1 (a := ⟨q, 0, none⟩) n1' _) (a := ⟨q, 1, none⟩) n1' _) hw, own_baseV (ownsRow_setCell_other (ownsRow_setCell_other h.r2 (a := ⟨q, 0, none⟩) n2' _) (a := ⟨q, 1, none⟩) n2' _) hw, h.ap,
    ((hb.trans (h.bel.mono hw)).setCell hB _).setCell hB _⟩

set_option maxRecDepth 100000 in
set_option maxHeartbeats 1000000 in
theorem ev_any (a : Option Addr) (len cap : Nat) (s : ByteArray) (t : List Vl) (w : World) (h : InRow 2 Vl.cells Vl.ok vl0 w a len t) (hs : s.size ≤ maxLen) :
    Calls Tryz.prog 17 #[.agg #[.slice a len cap, .string s]] w fun e w' => ∃ v1 v2, e = .returned (.tuple #[.agg #[v1, .string (cut s 210)], v2]) ∧
      w'.ownsRow w.heap.size 87 2 v1 ((t.take 6).map cutV).length (((t.take 6).map cutV).flatMap Vl.cells) ∧
      w'.ownsRow w.heap.size 72 2 v2 ((t.take 6).map cutV).length (((t.take 6).map cutV).flatMap Vl.cells) ∧ (∀ b, v1.ownBlock = some b → v2.ownBlock ≠ some b) ∧ Below w.heap.size w w' := by
  obtain ⟨i0, hi, hz0, hz1, hz2⟩ := info_parts Tryz.infoVl
  obtain ⟨i1, hj, hy0, hy1, hy2⟩ := info_parts Tryz.infoRVl
  have hlen := h.2.1
  have HL : Hid (t.length = len) := h.1
  obtain ⟨pay, hpay⟩ : ∃ pay, pay = cut s 210 := ⟨_, rfl⟩
  have HP : Hid (pay = cut s 210) := hpay
  rw [← hpay]
  clear hpay
  obtain ⟨w1, hw1⟩ : ∃ w1, w1 = (w.alloc (.cells #[.slice a len cap, .string s] 44)).alloc (.cells #[.slice none 0 0, .string ⟨#[]⟩] 44) := ⟨_, rfl⟩
  have s1 : w1.heap.size = w.heap.size + 2 := by rw [hw1]; simp
  have b1 : Below w.heap.size w w1 := by rw [hw1]; exact below2 _ _ _
  have x0 : w1.heap[w.heap.size]? = some (.cells #[.slice a len cap, .string s] 44 (0, 0)) := by rw [hw1, Below.heap_alloc _ _ _ (by simp)]; exact heap_alloc_new _ _
  have x1 : w1.heap[w.heap.size + 1]? = some (.cells #[.slice none 0 0, .string ⟨#[]⟩] 44 (0, 0)) := by
    have := heap_alloc_new (w.alloc (.cells #[.slice a len cap, .string s] 44)) (.cells #[.slice none 0 0, .string ⟨#[]⟩] 44)
    rw [hw1]; simpa using this
  have HI : Hid (InRow 2 Vl.cells Vl.ok vl0 w1 a len t) := h.below (Nat.le_refl _) b1
  go_enter Tryz.func17, Tryz.ntmps17
  go_wp2_with fail
  refine (cut_any s 210 _ hs).mono ?_
  rintro e w' ⟨rfl, hw'⟩
  subst w'
  rw [← HP.out]
  have HS : Hid (Ev w1.heap.size w1 ((w1.alloc (.cells #[] 72)).alloc (.cells #[.slice none 0 0, .string pay] 44)) (w.heap.size + 1 + 1 + 1) pay (.slice none 0 0) (.slice (some ⟨w.heap.size + 1 + 1, 0, none⟩) 0 0) 0 0 [] []) := by
    have s2 : w.heap.size + 1 + 1 = w1.heap.size := by omega
    have q := World.ownsRow_made (base := w1.heap.size) (e := 72) (size := 2) w1 #[] 0 (Nat.le_refl _) (Nat.zero_le _) rfl
    rw [s2]
    refine ⟨World.ownsRow_nil _ _ _ _, q.alloc _, fun b hb e => by simp [Value.ownBlock] at hb, new_at (by simp), by simp [Value.ownBlock], by simp [Value.ownBlock], by omega, below2 _ _ _, by simp; omega⟩
  have HX : Hid (w1.heap.size = w.heap.size + 2 ∧ Below w.heap.size w w1) := ⟨s1, b1⟩
  go_wp2
  rw [← hw1]
  clear hw1 h s1 b1
  go_loopg [5, 6] 6 (fun kx s5 s6 wr => ∃ i : Nat, s6 = .int .i64 i ∧ i ≤ len ∧ i ≤ 6 ∧ kx = 6 - i ∧ (∃ a2 c2, s5 = .slice a2 i c2) ∧ ∃ a1 c1, Hid (Ev w1.heap.size w1 wr (w.heap.size + 1 + 1 + 1) pay (.slice a1 i c1) s5 i i (((t.take i).map cutV).flatMap Vl.cells) (((t.take i).map cutV).flatMap Vl.cells)))
  case atStart => exact ⟨0, rfl, Nat.zero_le _, Nat.zero_le _, rfl, ⟨_, _, rfl⟩, none, 0, by simpa using HS⟩
  case round =>
    obtain ⟨i, rfl, h1, h2, rfl, ⟨a2, c2, rfl⟩, a1, c1, R⟩ := hrel
    have hle := R.out.le
    have hP := R.out.lt
    have y0 := blk_cell (j := 0) ((R.out.bel.block _ (by have := HX.out.1; omega)).trans x0) (by simp)
    simp at y0
    have p0 := blk_cell (j := 0) R.out.box (by simp)
    have p1 := blk_cell (j := 1) R.out.box (by simp)
    simp at p0 p1
    have hw1 : w.heap.size < wr.heap.size := by omega
    by_cases hl : i < len
    · by_cases h6 : i < 6
      · obtain ⟨b, o, rfl, hb, hok, hcell⟩ := HI.out.get i hl
        have SN : Hid (((t.take (i + 1)).map cutV).flatMap Vl.cells = ((t.take i).map cutV).flatMap Vl.cells ++ (cutV (t.getD i vl0)).cells) := cutV_snoc t i (by have := HL.out; omega)
        have hnm : (t.getD i vl0).str.size ≤ maxLen := hok.2
        generalize t.getD i vl0 = x at hcell hnm SN
        have hbw := R.out.bel
        have e : ∀ j, wr.cell? ⟨b, j, none⟩ = w1.cell? ⟨b, j, none⟩ := fun j => hbw.cell (p := ⟨b, j, none⟩) hb
        have k0 := hcell 0 (by omega)
        have k1 := hcell 1 (by omega)
        simp only [Vl.cells, ← e] at k0 k1
        simp at k0 k1
        have hlt : b < wr.heap.size := Nat.lt_of_lt_of_le hb hle
        clear hcell e hok hbw
        go_wp2_with fail
        refine (cut_any x.str 50 _ hnm).mono ?_
        rintro e w' ⟨rfl, hw'⟩
        subst w'
        go_wp2_with (at_builtin; refine wpList_own_append2 _ rfl _ _ 42 42 rfl w1.heap.size 87 i0 _ 24 Tryz.underlying42 hi hz0 hz1 hz2 rfl _ _ _ rfl (own_carry R.out.r1 (below2 _ _ _)) _ 1 (cutV x).cells rfl (src_Vl (wr.alloc _) (cutV x) (wr.heap.size + 1) (by simp)) ?c3 ?c4 ?c5 ?_)
        case c3 => unfold maxLen; omega
        case c4 => omega
        case c5 => simp; omega
        intro v1' W2 ha
        have hc2 := R.out.carry (below2 wr (.cells #[.int .i64 x.num, .string (cut x.str 50)] 87) (.cells #[.int .i64 x.num, .string (cut x.str 50)] 87))
        have E1 : Hid (Ev w1.heap.size w1 (W2.setCell ⟨w.heap.size + 1 + 1 + 1, 0, none⟩ v1') (w.heap.size + 1 + 1 + 1) pay v1' (.slice a2 i c2) (i + 1) i _ _) := hc2.step1 ha.row ha.grown ha.new
        have hb2 := hc2.box2 ha.grown
        have z0 := blk_cell (j := 0) hb2 (by simp)
        have z1 := blk_cell (j := 1) hb2 (by simp)
        simp at z0 z1
        have zf : W2.frozen? ⟨w.heap.size + 1 + 1 + 1, 0, none⟩ = false := by simp [World.frozen?, hb2]
        have zl := lt_of_block hb2
        have hbx : W2.heap[wr.heap.size]? = some (.cells #[.int .i64 x.num, .string (cut x.str 50)] 87 (0, 0)) := by
          rw [hc2.keep1 (fun e => by have := (R.out.r1.lt _ e).2; omega) (by simp; omega) ha.grown, Below.heap_alloc _ _ _ (by simp)]
          exact heap_alloc_new _ _
        have hne : w.heap.size + 1 + 1 + 1 ≠ wr.heap.size := by omega
        have hbx2 : (W2.setCell ⟨w.heap.size + 1 + 1 + 1, 0, none⟩ v1').heap[wr.heap.size]? = some (.cells #[.int .i64 x.num, .string (cut x.str 50)] 87 (0, 0)) := by
          rw [Below.heap_setCell _ _ _ _ (by simpa using hne.symm)]; exact hbx
        have m0 := blk_cell (j := 0) hbx2 (by simp)
        have m1 := blk_cell (j := 1) hbx2 (by simp)
        simp at m0 m1
        have ml := lt_of_block hbx2
        have L2 : Hid (w1.heap.size ≤ (W2.setCell ⟨w.heap.size + 1 + 1 + 1, 0, none⟩ v1').heap.size) := E1.out.le
        obtain ⟨a1', c1', hv1⟩ := ha.shape
        subst hv1
        have hsz : (W2.setCell ⟨w.heap.size + 1 + 1 + 1, 0, none⟩ (.slice a1' (i + 1) c1')).heap.size = W2.heap.size := by simp [World.setCell]
        clear ha hb2 hbx hbx2 k0 k1 hc2 p0 p1 y0
        go_wp2_with (at_builtin; refine wpList_own_append2 _ rfl _ _ 60 60 rfl w1.heap.size 72 i1 _ 24 Tryz.underlying60 hj hy0 hy1 hy2 rfl _ _ _ rfl (own_carry E1.out.r2 (below1 _ _)) _ 1 (cutV x).cells rfl (src_RVl _ (cutV x) _ (by first | rfl | simp [World.setCell])) ?d3 ?d4 ?d5 ?_)
        case d3 => unfold maxLen; omega
        case d4 => omega
        case d5 => have := L2.out; simp; omega
        intro v2' W4 ha2
        have hst := (E1.out.carry (below1 _ _)).step2 ha2.row ha2.grown ha2.new
        obtain ⟨a2', c2', hv2⟩ := ha2.shape
        subst hv2
        have HST : Hid (Ev w1.heap.size w1 W4 (w.heap.size + 1 + 1 + 1) pay (.slice a1' (i + 1) c1') (.slice a2' (i + 1) c2') (i + 1) (i + 1) (((t.take (i + 1)).map cutV).flatMap Vl.cells) (((t.take (i + 1)).map cutV).flatMap Vl.cells)) := by
          show Ev _ _ _ _ _ _ _ _ _ _ _
          rw [SN.out, List.map_take]; exact hst
        clear hst ha2 E1 L2 m0 m1 ml z0 z1 zf zl hsz
        go_wp2
        go_roundg (6 - (i + 1))
        case measure => omega
        case rel => exact ⟨i + 1, by go_num, by omega, by omega, rfl, ⟨_, _, rfl⟩, _, _, HST⟩
      · obtain rfl : i = 6 := by omega
        have HE : Hid (((t.take 6).map cutV).length = 6) := (by have := HL.out; simp; omega : ((t.take 6).map cutV).length = 6)
        have b1 := HX.out.2
        have q1 := (R.out.bel.block _ (by have := HX.out.1; omega)).trans x1
        have r0 := blk_cell (j := 0) q1 (by simp)
        have r1 := blk_cell (j := 1) q1 (by simp)
        simp at r0 r1
        have rf : wr.frozen? ⟨w.heap.size + 1, 0, none⟩ = false := by simp [World.frozen?, q1]
        have rf1 : wr.frozen? ⟨w.heap.size + 1, 1, none⟩ = false := by simp [World.frozen?, q1]
        have rl : w.heap.size + 1 < wr.heap.size := lt_of_block q1
        go_wp2
        refine bodyPost_ret (v := .tuple #[.agg #[.slice a1 6 c1, .string pay], .slice a2 6 c2]) (by simp [results, Tryz.results17, go_sem, r0, r1]) rfl ⟨_, _, rfl, ?_⟩
        rw [HE.out]
        exact R.out.done (by omega) (by have := HX.out.1; omega) (by have := HX.out.1; omega) b1
    · obtain rfl : i = len := by omega
      have HE : Hid (t.take i = t.take 6 ∧ ((t.take 6).map cutV).length = i) := (by
        have := HL.out
        refine ⟨?_, by simp; omega⟩
        rw [List.take_of_length_le (by omega), List.take_of_length_le (by omega)] : t.take i = t.take 6 ∧ ((t.take 6).map cutV).length = i)
      have b1 := HX.out.2
      have q1 := (R.out.bel.block _ (by have := HX.out.1; omega)).trans x1
      have r0 := blk_cell (j := 0) q1 (by simp)
      have r1 := blk_cell (j := 1) q1 (by simp)
      simp at r0 r1
      have rf : wr.frozen? ⟨w.heap.size + 1, 0, none⟩ = false := by simp [World.frozen?, q1]
      have rf1 : wr.frozen? ⟨w.heap.size + 1, 1, none⟩ = false := by simp [World.frozen?, q1]
      have rl : w.heap.size + 1 < wr.heap.size := lt_of_block q1
      go_wp2
      refine bodyPost_ret (v := .tuple #[.agg #[.slice a1 i c1, .string pay], .slice a2 i c2]) (by simp [results, Tryz.results17, go_sem, r0, r1]) rfl ⟨_, _, rfl, ?_⟩
      rw [HE.out.2, ← HE.out.1]
      exact R.out.done (by omega) (by have := HX.out.1; omega) (by have := HX.out.1; omega) b1
end Go.Proofs.YtpepbhmdfjpblaaGreatDoor
