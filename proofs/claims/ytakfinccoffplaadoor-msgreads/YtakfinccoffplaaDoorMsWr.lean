/- What msg.writeWish and writeEvent do. -/
import Derived.Test.YtakfinccoffplaaDoorMsChk
import Derived.Test.YtakfinccoffplaaDoorCodeKeep
import Derived.Test.YtakfinccoffplaaDoorValEv
namespace Go.Proofs.YtakfinccoffplaaDoor
open Go.ChangeShapes Go.WideShapes Go.ChangeAt Go.RowKit
set_option linter.unusedVariables false

theorem kept_alloc (w : World) (o : Obj) (p : Nat) (v : Value) : Kept w (w.alloc o) p v v :=
  ⟨rfl, rfl, rfl, by simp, fun k hk _ _ => Below.heap_alloc w o k hk, fun k hk => .inl hk⟩
/-- A block that is new behind the writer stays as it is. -/
theorem Kept.new {B : Nat} {w w' : World} {p : Nat} {v v' : Value} {l : List UInt8} {o : Obj} (h : Wr B w p v l) (hk : Kept (w.alloc o) w' p v v') (hv : ∃ a n c, v = .slice a n c) : w'.heap[w.heap.size]? = some o := by
  rw [hk.block w.heap.size (by simp) (fun e => by have := h.lt; omega) (fun e => by have := (h.row.lt _ e.symm).2; omega)]
  exact heap_alloc_new w _

theorem flat_snocS (fl : List ByteArray) (i : Nat) (h : i < fl.length) : (fl.take (i + 1)).flatMap txtB = (fl.take i).flatMap txtB ++ txtB (fl.getD i ByteArray.empty) := by
  rw [List.take_succ_eq_append_getElem h, List.flatMap_append]; simp [h]
theorem flat_snocV (vl : List Vl) (i : Nat) (h : i < vl.length) : (vl.take (i + 1)).flatMap vlB = ((vl.take i).flatMap vlB ++ intB (vl.getD i vl0).num) ++ txtB (vl.getD i vl0).str := by
  rw [List.take_succ_eq_append_getElem h, List.flatMap_append]; simp [h, vlB]
theorem flat_take_le {α : Type} (f : α → List UInt8) (l : List α) (i : Nat) : ((l.take i).flatMap f).length ≤ (l.flatMap f).length := by
  conv => rhs; rw [← List.take_append_drop i l, List.flatMap_append, List.length_append]
  omega

set_option maxRecDepth 100000 in
set_option maxHeartbeats 1000000 in
theorem wish_any (B p : Nat) (v : Value) (l : List UInt8) (m : Mg) (fa : Option Addr) (fc : Nat) (va : Option Addr) (vc : Nat) (w0 w : World) (h : Wr B w p v l) (hB : B ≤ w.heap.size)
    (hr : InRow 1 encS okS ByteArray.empty w0 fa m.fl.length m.fl) (h0 : w0.heap.size ≤ B) (hb0 : Below B w0 w) (hl : l.length + (m.fl.flatMap txtB).length ≤ 800000) :
    Calls Tryd.prog 20 #[.pointer (some ⟨p, 0, none⟩), m.val fa fc va vc] w
      fun e w' => e = .returned (.tuple #[]) ∧ ∃ v', Wr B w' p v' (l ++ (if m.any = true then intB (-1) else intB m.fl.length ++ m.fl.flatMap txtB)) ∧ Kept w w' p v v' := by
  unfold Mg.val
  obtain ⟨k, g, a, fl, pub, seq, hops, vl, pay⟩ := m
  simp only at hr hl ⊢
  have HL : Hid (l.length + (fl.flatMap txtB).length ≤ 800000) := hl
  have hll : l.length ≤ 800000 := by omega
  clear hl
  generalize vl.length = vn at *
  obtain ⟨bx, hbx⟩ : ∃ bx, bx = Obj.cells #[.int .i64 k, .string g, .bool a, .slice fa fl.length fc, .int .i64 pub, .int .i64 seq, .int .i64 hops, .slice va vn vc, .string pay] 27 := ⟨_, rfl⟩
  have hW := h.alloc bx
  have hBs : B ≤ (w.alloc bx).heap.size := by simp; omega
  cases a with
  | true =>
    have HB : Hid ((if true = true then intB (-1) else intB fl.length ++ fl.flatMap txtB) = intB (-1)) := (rfl : (if true = true then intB (-1) else intB fl.length ++ fl.flatMap txtB) = intB (-1))
    rw [HB.out]
    go_enter Tryd.func20, Tryd.ntmps20
    go_wp2_with fail
    rw [← hbx]
    refine (wint_any B p v l (-1) _ hW hBs (by omega) (by omega) (by omega)).mono ?_
    rintro e w' ⟨rfl, v', hW', hK⟩
    go_wp2
    refine bodyPost_ret (results_none rfl _ _ _) rfl ?_
    exact ⟨rfl, v', hW', (kept_alloc _ _ _ _).trans hK⟩
  | false =>
    have HB : Hid ((if false = true then intB (-1) else intB fl.length ++ fl.flatMap txtB) = intB fl.length ++ fl.flatMap txtB) := (rfl : (if false = true then intB (-1) else intB fl.length ++ fl.flatMap txtB) = _)
    rw [HB.out]
    have HI : Hid (InRow 1 encS okS ByteArray.empty w0 fa fl.length fl) := hr
    have hn : fl.length ≤ 9223372036854775807 := hr.2.1
    clear hr
    go_enter Tryd.func20, Tryd.ntmps20
    go_wp2_with fail
    rw [← hbx]
    refine (wint_any B p v l (fl.length : Int) _ hW hBs (by omega) (by omega) (by omega)).mono ?_
    rintro e w1 ⟨rfl, v1, hW1, hK1⟩
    have hx := Kept.new h hK1 (by obtain ⟨a, c, e⟩ := h.shape; exact ⟨a, _, c, e⟩)
    rw [hbx] at hx
    have c3 := blk_cell (j := 3) hx (by simp)
    simp at c3
    have hK0 : Kept w w1 p v v1 := (kept_alloc _ _ _ _).trans hK1
    clear hK1 hx
    go_wp2
    go_loopw [18] (fun x wr => ∃ (i : Nat) (u : Value), x = .int .i64 i ∧ i ≤ fl.length ∧ Hid (Wr B wr p u (l ++ (intB fl.length ++ (fl.take i).flatMap txtB)) ∧ Kept w wr p v u)) (fun x _ => fl.length - (intOf x).toNat)
    case atStart => exact ⟨0, v1, rfl, Nat.zero_le _, by simpa [intB] using hW1, hK0⟩
    case round =>
      obtain ⟨i, u, rfl, hi, R⟩ := hrel
      by_cases hlt : i < fl.length
      · obtain ⟨b, o, rfl, hb, hok, hcell⟩ := HI.out.get i hlt
        have HS : Hid ((fl.take (i + 1)).flatMap txtB = (fl.take i).flatMap txtB ++ txtB (fl.getD i ByteArray.empty)) := flat_snocS fl i hlt
        have hsz : (fl.getD i ByteArray.empty).size ≤ 1000000 ∧ (l ++ (intB fl.length ++ (fl.take i).flatMap txtB)).length ≤ 900000 := by
          have hm : fl.getD i ByteArray.empty ∈ fl := by rw [List.getD_eq_getElem?_getD, List.getElem?_eq_getElem hlt]; exact List.getElem_mem _
          have q1 := flat_le txtB fl _ hm
          have q2 := txt_len (fl.getD i ByteArray.empty)
          have q3 := flat_take_le txtB fl i
          have q4 := HL.out
          have q5 := numB_len10 (zig (fl.length : Int)) (zig_lt _ (by omega) (by omega))
          refine ⟨by omega, ?_⟩
          simp only [List.length_append, intB]; omega
        generalize fl.getD i ByteArray.empty = x at hcell HS hsz hok
        have k0 := hcell 0 (by omega)
        have hbw := R.out.2.below h hb0 hB
        have e0 : wr.cell? ⟨b, o + i * 1 + 0, none⟩ = w0.cell? ⟨b, o + i * 1 + 0, none⟩ := hbw.cell (p := ⟨b, o + i * 1 + 0, none⟩) (Nat.lt_of_lt_of_le hb h0)
        rw [← e0] at k0
        simp [encS] at k0
        have hBr : B ≤ wr.heap.size := Nat.le_trans hB R.out.2.size
        clear hcell e0 hbw hok
        go_wp2_with fail
        refine (wtext_any B p u _ x _ R.out.1 hBr hsz.1 hsz.2).mono ?_
        rintro e w2 ⟨rfl, v2, hW2, hK2⟩
        have HN : Hid (Wr B w2 p v2 (l ++ (intB fl.length ++ (fl.take (i + 1)).flatMap txtB)) ∧ Kept w w2 p v v2) := by
          refine ⟨?_, R.out.2.trans hK2⟩
          rw [HS.out]
          simpa [txtB] using hW2
        clear hW2 hK2
        go_wp2
        go_roundw
        case rel => exact ⟨i + 1, v2, by go_num, hlt, HN⟩
        case measure => simp [intOf]; omega
      · obtain rfl : i = fl.length := by omega
        go_wp2
        go_end0
        have := R.out
        rw [List.take_length] at this
        exact ⟨rfl, u, this.1, this.2⟩

set_option maxRecDepth 100000 in
set_option maxHeartbeats 1000000 in
theorem wevent_any (B p : Nat) (v : Value) (l : List UInt8) (vl : List Vl) (pay : ByteArray) (va : Option Addr) (vc : Nat) (w0 w : World) (h : Wr B w p v l) (hB : B ≤ w.heap.size)
    (hr : InRow 2 Vl.cells Vl.ok vl0 w0 va vl.length vl) (h0 : w0.heap.size ≤ B) (hb0 : Below B w0 w) (hl : l.length + (vl.flatMap vlB).length + (txtB pay).length ≤ 800000) :
    Calls Tryd.prog 21 #[.pointer (some ⟨p, 0, none⟩), .agg #[.slice va vl.length vc, .string pay]] w
      fun e w' => e = .returned (.tuple #[]) ∧ ∃ v', Wr B w' p v' (l ++ (intB vl.length ++ (vl.flatMap vlB ++ txtB pay))) ∧ Kept w w' p v v' := by
  have HL : Hid (l.length + (vl.flatMap vlB).length + (txtB pay).length ≤ 800000) := hl
  have hll : l.length ≤ 800000 := by omega
  have hpay : pay.size ≤ 800000 := by have := txt_len pay; omega
  clear hl
  obtain ⟨bx, hbx⟩ : ∃ bx, bx = Obj.cells #[.slice va vl.length vc, .string pay] 25 := ⟨_, rfl⟩
  have hW := h.alloc bx
  have hBs : B ≤ (w.alloc bx).heap.size := by simp; omega
  have HI : Hid (InRow 2 Vl.cells Vl.ok vl0 w0 va vl.length vl) := hr
  have hn : vl.length ≤ 9223372036854775807 := hr.2.1
  clear hr
  go_enter Tryd.func21, Tryd.ntmps21
  go_wp2_with fail
  rw [← hbx]
  refine (wint_any B p v l (vl.length : Int) _ hW hBs (by omega) (by omega) (by omega)).mono ?_
  rintro e w1 ⟨rfl, v1, hW1, hK1⟩
  have hx := Kept.new h hK1 (by obtain ⟨a, c, e⟩ := h.shape; exact ⟨a, _, c, e⟩)
  have hK0 : Kept w w1 p v v1 := (kept_alloc _ _ _ _).trans hK1
  have HX : Hid (∀ (wr : World) (u : Value), Kept w1 wr p v1 u → wr.heap[w.heap.size]? = some bx) := fun wr u hk => by
    rw [hk.block w.heap.size (lt_of_block hx) (fun e => by have := h.lt; omega) (fun e => by
      rcases hK1.own _ e.symm with q | q
      · have := (h.row.lt _ q).2; omega
      · simp at q; omega)]
    exact hx
  have hx1 := hx
  rw [hbx] at hx1
  have c0 := blk_cell (j := 0) hx1 (by simp)
  simp at c0
  clear hK1 hx hx1
  go_wp2
  go_loopw [14] (fun x wr => ∃ (i : Nat) (u : Value), x = .int .i64 i ∧ i ≤ vl.length ∧ Hid (Wr B wr p u (l ++ (intB vl.length ++ (vl.take i).flatMap vlB)) ∧ Kept w wr p v u ∧ Kept w1 wr p v1 u)) (fun x _ => vl.length - (intOf x).toNat)
  case atStart => exact ⟨0, v1, rfl, Nat.zero_le _, by simpa [intB] using hW1, hK0, Kept.refl _ _ _⟩
  case round =>
    obtain ⟨i, u, rfl, hi, R⟩ := hrel
    by_cases hlt : i < vl.length
    · obtain ⟨b, o, rfl, hb, hok, hcell⟩ := HI.out.get i hlt
      have HS : Hid ((vl.take (i + 1)).flatMap vlB = ((vl.take i).flatMap vlB ++ intB (vl.getD i vl0).num) ++ txtB (vl.getD i vl0).str) := flat_snocV vl i hlt
      have hsz : (vl.getD i vl0).str.size ≤ 800000 ∧ (l ++ (intB vl.length ++ (vl.take i).flatMap vlB)).length ≤ 800010 := by
        have hm : vl.getD i vl0 ∈ vl := by rw [List.getD_eq_getElem?_getD, List.getElem?_eq_getElem hlt]; exact List.getElem_mem _
        have q1 := flat_le vlB vl _ hm
        have q2 := txt_len (vl.getD i vl0).str
        have q3 := flat_take_le vlB vl i
        have q4 := HL.out
        have q5 := numB_len10 (zig (vl.length : Int)) (zig_lt _ (by omega) (by omega))
        have q6 : (vlB (vl.getD i vl0)).length = (intB (vl.getD i vl0).num).length + (txtB (vl.getD i vl0).str).length := by unfold vlB; simp
        refine ⟨by omega, ?_⟩
        simp only [List.length_append, intB]; omega
      generalize vl.getD i vl0 = x at hcell HS hsz hok
      have hbw := R.out.2.1.below h hb0 hB
      have e0 : ∀ j, wr.cell? ⟨b, j, none⟩ = w0.cell? ⟨b, j, none⟩ := fun j => hbw.cell (p := ⟨b, j, none⟩) (Nat.lt_of_lt_of_le hb h0)
      have k0 := hcell 0 (by omega)
      have k1 := hcell 1 (by omega)
      simp only [Vl.cells, ← e0] at k0 k1
      simp at k0 k1
      have hBr : B ≤ wr.heap.size := Nat.le_trans hB R.out.2.1.size
      have hnum : i64 x.num := hok.1
      unfold i64 at hnum
      obtain ⟨b2, hb2⟩ : ∃ b2, b2 = Obj.cells #[.int .i64 x.num, .string x.str] 51 := ⟨_, rfl⟩
      have hW2 := R.out.1.alloc b2
      have hBs2 : B ≤ (wr.alloc b2).heap.size := by simp; omega
      have hblt : b < wr.heap.size := by omega
      clear hcell e0 hbw hok
      go_wp2_with fail
      rw [← hb2]
      refine (wint_any B p u _ x.num _ hW2 hBs2 hnum.1 hnum.2 (by omega)).mono ?_
      rintro e w2 ⟨rfl, v2, hW3, hK3⟩
      have hy := Kept.new R.out.1 hK3 (by obtain ⟨a, c, e⟩ := R.out.1.shape; exact ⟨a, _, c, e⟩)
      rw [hb2] at hy
      have d1 := blk_cell (j := 1) hy (by simp)
      simp at d1
      have hBr2 : B ≤ w2.heap.size := Nat.le_trans hBs2 hK3.size
      have hll2 : ((l ++ (intB vl.length ++ (vl.take i).flatMap vlB)) ++ numB (zig x.num)).length ≤ 900000 := by
        have q5 := numB_len10 (zig x.num) (zig_lt _ hnum.1 hnum.2)
        rw [List.length_append]; omega
      have hK4 := (kept_alloc wr b2 p u).trans hK3
      clear hy k0 k1 hK3
      go_wp2_with fail
      refine (wtext_any B p v2 _ x.str _ hW3 hBr2 (by omega) hll2).mono ?_
      rintro e w3 ⟨rfl, v3, hW4, hK5⟩
      have HN : Hid (Wr B w3 p v3 (l ++ (intB vl.length ++ (vl.take (i + 1)).flatMap vlB)) ∧ Kept w w3 p v v3 ∧ Kept w1 w3 p v1 v3) := by
        refine ⟨?_, R.out.2.1.trans (hK4.trans hK5), R.out.2.2.trans (hK4.trans hK5)⟩
        rw [HS.out]
        simpa [txtB, intB] using hW4
      clear hW4 hK5 hW3 hK4
      go_wp2
      go_roundw
      case rel => exact ⟨i + 1, v3, by go_num, hlt, HN⟩
      case measure => simp [intOf]; omega
    · obtain rfl : i = vl.length := by omega
      have hy := HX.out wr u R.out.2.2
      rw [hbx] at hy
      have d1 := blk_cell (j := 1) hy (by simp)
      simp at d1
      have hBr : B ≤ wr.heap.size := Nat.le_trans hB R.out.2.1.size
      have hll2 : (l ++ (intB vl.length ++ (vl.take vl.length).flatMap vlB)).length ≤ 900000 := by
        have q4 := HL.out
        have q5 := numB_len10 (zig (vl.length : Int)) (zig_lt _ (by omega) (by omega))
        rw [List.take_length]
        simp only [List.length_append, intB]; omega
      clear hy
      go_wp2_with fail
      refine (wtext_any B p u _ pay _ R.out.1 hBr (by omega) hll2).mono ?_
      rintro e w3 ⟨rfl, v3, hW4, hK5⟩
      go_wp2
      go_end0
      refine ⟨rfl, v3, ?_, R.out.2.1.trans hK5⟩
      simpa [txtB, intB] using hW4
end Go.Proofs.YtakfinccoffplaaDoor
