/- The reader of package filter: pred. -/
import Derived.Test.YtkncpojijfeahaaGreatDoorFilPred
namespace Go.Proofs.YtkncpojijfeahaaGreatDoor
open Go.ChangeShapes Go.WideShapes Go.ChangeAt Go.RowKit
set_option linter.unusedVariables false

/-- A predicate as it was read. -/
structure Pl where
  name : List UInt8
  op : Int
  lo : Int
  hi : Int
  str : List UInt8
def Pl.cells (q : Pl) : List Value := [.string (ba q.name), .int .i64 q.op, .int .i64 q.lo, .int .i64 q.hi, .string (ba q.str)]
def Pl.agg (q : Pl) : Value := .agg #[.string (ba q.name), .int .i64 q.op, .int .i64 q.lo, .int .i64 q.hi, .string (ba q.str)]
def aggZ : Value := .agg #[.string ⟨#[]⟩, .int .i64 0, .int .i64 0, .int .i64 0, .string ⟨#[]⟩]
def predV : Ps Pl → Value
  | .ok q _ => .tuple #[q.agg, .nilIface]
  | .fail e _ => .tuple #[aggZ, ec e]
def rAsk (nm : List UInt8) (l : List UInt8) : Ps Pl := match l with
  | [] => .fail true []
  | c :: r =>
    if c.toNat = 61 then match rMarkStr [61] (c :: r) with
      | .ok st r' => .ok ⟨nm, 2, 0, 0, st⟩ r'
      | .fail e r' => .fail e r'
    else if c.toNat = 94 then match rMarkStr [94, 61] (c :: r) with
      | .ok st r' => .ok ⟨nm, 3, 0, 0, st⟩ r'
      | .fail e r' => .fail e r'
    else match rNums (c :: r) with
      | .ok v r' => .ok ⟨nm, 1, v.1, v.2, []⟩ r'
      | .fail e r' => .fail e r'
def rPred (l : List UInt8) : Ps Pl := match rWord l with
  | .fail e r => .fail e r
  | .ok nm r => match rBegin r with
    | .fail e r' => .fail e r'
    | .ok _ r' => rAsk nm r'

theorem Kp.setF {w w' : World} {p b o : Nat} (h : Kp w w' p) (hb : w.heap.size ≤ b) (v : Value) : Kp w (w'.setCell ⟨b, o, none⟩ v) p :=
  ⟨h.os, h.tape, h.output, by simpa [World.setCell] using h.size, fun k hk hp => (Below.heap_setCell _ _ _ _ (by simp; omega)).trans (h.block k hk hp)⟩
theorem Rd.setF {w : World} {p b o : Nat} {s : ByteArray} {k : Nat} (h : Rd w p s k) (hb : b ≠ p) (v : Value) : Rd (w.setCell ⟨b, o, none⟩ v) p s k :=
  ⟨(Below.heap_setCell _ _ _ _ (by simpa using hb.symm)).trans h.box, h.le⟩
/-- Five cells of one block. -/
theorem five {w : World} {b : Nat} {a0 a1 a2 a3 a4 : Value} {t : TypeId} (h : w.heap[b]? = some (.cells #[a0, a1, a2, a3, a4] t (0, 0))) :
    w.cell? ⟨b, 0, none⟩ = some a0 ∧ w.cell? ⟨b, 1, none⟩ = some a1 ∧ w.cell? ⟨b, 2, none⟩ = some a2 ∧ w.cell? ⟨b, 3, none⟩ = some a3 ∧ w.cell? ⟨b, 4, none⟩ = some a4 ∧ ∀ o, w.frozen? ⟨b, o, none⟩ = false := by
  simp [World.cell?, World.frozen?, h]
theorem Kp.ofAlloc {w w' : World} {p : Nat} {o : Obj} (h : Kp (w.alloc o) w' p) : Kp w w' p := (Kp.ofBelow ((Below.refl _ _).alloc (Nat.le_refl _) o)).trans h

section
variable {w : World} {b : Nat} {a0 a1 a2 a3 a4 : Value} {t : TypeId} (h : w.heap[b]? = some (.cells #[a0, a1, a2, a3, a4] t (0, 0)))
include h
theorem five_s (i : Nat) (v : Value) (xs : Array Value) (hx : Array.setIfInBounds #[a0, a1, a2, a3, a4] i v = xs) : (w.setCell ⟨b, i, none⟩ v).heap[b]? = some (.cells xs t (0, 0)) := by
  have hlt := lt_of_block h
  have h' : w.heap[b] = .cells #[a0, a1, a2, a3, a4] t (0, 0) := by simpa [Array.getElem?_eq_getElem hlt] using h
  subst hx
  show (w.heap.modify b _)[b]? = _
  rw [Array.getElem?_eq_getElem (by simpa using hlt), Array.getElem_modify_self, h']
  rfl
end
theorem set_far {w : World} {b c o : Nat} {v : Value} {x : Option Obj} (h : w.heap[c]? = x) (hn : b ≠ c) : (w.setCell ⟨b, o, none⟩ v).heap[c]? = x := (Below.heap_setCell _ _ _ _ (by simpa using hn.symm)).trans h
theorem Rd.set5 {w : World} {p b : Nat} {s : ByteArray} {k : Nat} (h : Rd w p s k) (hb : b ≠ p) (v0 v1 v2 v3 v4 : Value) : Rd (((((w.setCell ⟨b, 0, none⟩ v0).setCell ⟨b, 1, none⟩ v1).setCell ⟨b, 2, none⟩ v2).setCell ⟨b, 3, none⟩ v3).setCell ⟨b, 4, none⟩ v4) p s k :=
  ((((h.setF hb _).setF hb _).setF hb _).setF hb _).setF hb _
theorem Kp.set5 {w w' : World} {p b : Nat} (h : Kp w w' p) (hb : w.heap.size ≤ b) (v0 v1 v2 v3 v4 : Value) : Kp w (((((w'.setCell ⟨b, 0, none⟩ v0).setCell ⟨b, 1, none⟩ v1).setCell ⟨b, 2, none⟩ v2).setCell ⟨b, 3, none⟩ v3).setCell ⟨b, 4, none⟩ v4) p :=
  ((((h.setF hb _).setF hb _).setF hb _).setF hb _).setF hb _

set_option maxRecDepth 100000 in
set_option maxHeartbeats 4000000 in
theorem pred_any (p : Nat) (s : ByteArray) (k : Nat) (w0 w : World) (E : Env w0) (hB : Below w0.heap.size w0 w) (hp : w0.heap.size ≤ p) (h : Rd w p s k) (hs : s.size ≤ 1000) :
    Calls Tryz.prog 93 #[.pointer (some ⟨p, 0, none⟩)] w fun e w' => e = .returned (predV (rPred (dr s k))) ∧ ∃ k', Rd w' p s k' ∧ dr s k' = (rPred (dr s k)).left ∧ Kp w w' p := by
  have HE : Hid (Env w0 ∧ Below w0.heap.size w0 w ∧ w0.heap.size ≤ p) := ⟨E, hB, hp⟩
  have hpw := h.lt
  have hne : w.heap.size ≠ p := by omega
  clear E hB
  obtain ⟨W0, hW0⟩ : ∃ W0, W0 = w.alloc (.cells #[.string ⟨#[]⟩, .int .i64 0, .int .i64 0, .int .i64 0, .string ⟨#[]⟩] 134) := ⟨_, rfl⟩
  have hbw : Below w.heap.size w W0 := by rw [hW0]; exact (Below.refl _ _).alloc (Nat.le_refl _) _
  have hR0 : Rd W0 p s k := h.below hbw
  have hx0 : W0.heap[w.heap.size]? = some (.cells #[.string ⟨#[]⟩, .int .i64 0, .int .i64 0, .int .i64 0, .string ⟨#[]⟩] 134 (0, 0)) := by rw [hW0]; exact heap_alloc_new _ _
  have hK0 : Kp w W0 p := Kp.ofBelow hbw
  have hl0 : w.heap.size < W0.heap.size := lt_of_block hx0
  go_enter Tryz.func93, Tryz.ntmps93
  go_wp2_with fail
  rw [← hW0]
  clear hW0 hbw h
  refine (word_any p s k _ hR0 hs).mono ?_
  rintro e w1 ⟨rfl, b, hR, hb, hK⟩
  have hx1 := (hK.block _ hl0 hne).trans hx0
  have hl1 := lt_of_block hx1
  obtain ⟨c0, c1, c2, c3, c4, cf⟩ := five hx1
  cases hres : rWord (dr s k) with
  | fail ee r =>
    rw [hres] at hb
    have HW : Hid (rPred (dr s k) = .fail ee r) := by
      show rPred (dr s k) = .fail ee r
      unfold rPred; rw [hres]
    have HR : Hid (Rd w1 p s b ∧ dr s b = r ∧ Kp w w1 p) := ⟨hR, hb, hK0.trans hK⟩
    clear hb hR hK hres hR0 hx0 hx1 hK0
    have c0' := cf 0
    have c1' := cf 1
    have c2' := cf 2
    have c3' := cf 3
    have c4' := cf 4
    clear cf
    cases ee
    all_goals
      simp only [wordV, ec]
      go_wp2
      refine bodyPost_ret (v := predV (rPred (dr s k))) (by rw [HW.out]; simp [results, Tryz.results93, go_sem, predV, aggZ, ec, c0, c1, c2, c3, c4]) rfl ⟨rfl, b, HR.out.1.set5 hne _ _ _ _ _, by rw [HW.out]; exact HR.out.2.1, HR.out.2.2.set5 (Nat.le_refl _) _ _ _ _ _⟩
  | ok nm r =>
    rw [hres] at hb
    have hb' : dr s b = r := hb
    have HT : Hid (rWord (dr s k) = .ok nm (dr s b)) := by rw [hb']; exact hres
    have HK1 : Hid (Kp w w1 p) := hK0.trans hK
    clear hb hb' hK hres hR0 hx0 hK0 c0 c1 c2 c3 c4 cf
    simp only [wordV]
    go_wp2_with fail
    refine (begin_any p s b _ hR hs).mono ?_
    rintro e w2 ⟨rfl, b2, hR2, hb2, hK2⟩
    have hx2 := (hK2.block _ hl1 hne).trans hx1
    have hl2 := lt_of_block hx2
    obtain ⟨c0, c1, c2, c3, c4, cf⟩ := five hx2
    clear hx1 hR
    cases hres2 : rBegin (dr s b) with
    | fail ee r2 =>
      obtain ⟨h1, rfl, rfl⟩ := rBegin_fail hres2
      rw [hres2] at hb2
      have HW : Hid (rPred (dr s k) = .fail true []) := by
        show rPred (dr s k) = .fail true []
        unfold rPred; rw [HT.out]; simp only [hres2]
      have HR : Hid (Rd w2 p s b2 ∧ dr s b2 = [] ∧ Kp w w2 p) := ⟨hR2, hb2, HK1.out.trans hK2⟩
      clear hb2 hR2 hK2 hres2 hx2 h1
      have c0' := cf 0
      have c1' := cf 1
      have c2' := cf 2
      have c3' := cf 3
      have c4' := cf 4
      clear cf
      simp only [errV, ec]
      go_wp2
      refine bodyPost_ret (v := predV (rPred (dr s k))) (by rw [HW.out]; simp [results, Tryz.results93, go_sem, predV, aggZ, ec, c0, c1, c2, c3, c4]) rfl ⟨rfl, b2, HR.out.1.set5 hne _ _ _ _ _, by rw [HW.out]; exact HR.out.2.1, HR.out.2.2.set5 (Nat.le_refl _) _ _ _ _ _⟩
    | ok u r2 =>
      obtain ⟨h1, h2⟩ := rBegin_ok hres2
      rw [hres2] at hb2
      have hb2' : dr s b2 = r2 := hb2
      rw [← hb2'] at h1 h2
      have hlt := lt_of_dr h2
      have HT2 : Hid (rPred (dr s k) = rAsk nm (dr s b2)) := by
        show rPred (dr s k) = rAsk nm (dr s b2)
        unfold rPred; rw [HT.out]; simp only [hres2]; rw [hb2']
      have HK2 : Hid (Kp w w2 p) := HK1.out.trans hK2
      clear hb2 hb2' hK2 hres2 HK1 h1 h2 c0 c1 c2 c3 c4 cf
      simp only [errV]
      obtain ⟨NM, hNM⟩ : ∃ NM, NM = ba nm := ⟨_, rfl⟩
      rw [← hNM]
      have HNM : Hid (NM = ba nm) := hNM
      clear hNM
      obtain ⟨W3, hW3⟩ : ∃ W3, W3 = w2.alloc (.cells #[.string NM, .int .i64 0, .int .i64 0, .int .i64 0, .string ⟨#[]⟩] 134) := ⟨_, rfl⟩
      have hb3 : Below w2.heap.size w2 W3 := by rw [hW3]; exact (Below.refl _ _).alloc (Nat.le_refl _) _
      have hR3 := hR2.below hb3
      have hx3 := (hb3.block _ hl2).trans hx2
      have hy3 : W3.heap[w2.heap.size]? = some (.cells #[.string NM, .int .i64 0, .int .i64 0, .int .i64 0, .string ⟨#[]⟩] 134 (0, 0)) := by rw [hW3]; exact heap_alloc_new _ _
      have HK3 : Hid (Kp w W3 p) := HK2.out.trans (Kp.ofBelow hb3)
      have hl3 : w2.heap.size < W3.heap.size := lt_of_block hy3
      have hl4 : w.heap.size < W3.heap.size := lt_of_block hx3
      have hnp : w2.heap.size ≠ p := by have := hR2.lt; omega
      have hnr : w2.heap.size ≠ w.heap.size := by omega
      have z0 := hR3.c0
      have z1 := hR3.c1
      have zl := hR3.lt
      obtain ⟨d0, d1, d2, d3, d4, df⟩ := five hy3
      go_wp2_with fail
      rw [← hW3]
      clear hW3 hb3 hR2 hx2 HK2
      go_quiet (fail)
      by_cases h61 : (s[b2].toNat : Int) = 61
      · have df1 := df 1
        have hX : ((W3.drewN nq).setCell ⟨w2.heap.size, 1, none⟩ (.int .i64 2)).heap[w2.heap.size]? = some (.cells #[.string NM, .int .i64 2, .int .i64 0, .int .i64 0, .string ⟨#[]⟩] 134 (0, 0)) := five_s (w := W3.drewN nq) hy3 1 _ _ rfl
        have hY : ((W3.drewN nq).setCell ⟨w2.heap.size, 1, none⟩ (.int .i64 2)).heap[w.heap.size]? = some (.cells #[.string ⟨#[]⟩, .int .i64 0, .int .i64 0, .int .i64 0, .string ⟨#[]⟩] 134 (0, 0)) := set_far (w := W3.drewN nq) hx3 hnr
        have HX : Hid (Rd ((W3.drewN nq).setCell ⟨w2.heap.size, 1, none⟩ (.int .i64 2)) p s b2 ∧ Kp w ((W3.drewN nq).setCell ⟨w2.heap.size, 1, none⟩ (.int .i64 2)) p) := ⟨(hR3.drewN nq).setF hnp _, (HK3.out.drewN nq).setF (by omega) _⟩
        go_wp2_with fail
        generalize ((W3.drewN nq).setCell ⟨w2.heap.size, 1, none⟩ (.int .i64 2)) = X at hX hY HX ⊢
        clear z0 z1 zl d0 d1 d2 d3 d4 df df1 hx3 hy3 hR3 HK3
        refine (markStr_any p s ⟨#[61]⟩ b2 _ HX.out.1 hs (by decide)).mono ?_
        rintro e w5 ⟨rfl, b5, hR5, hb5, hK5⟩
        have em : (⟨#[61]⟩ : ByteArray).data.toList = [61] := rfl
        rw [em] at hb5 ⊢
        clear em
        have hX5 := (hK5.block _ (lt_of_block hX) hnp).trans hX
        have hY5 := (hK5.block _ (lt_of_block hY) hne).trans hY
        have HA : Hid (rPred (dr s k) = match rMarkStr [61] (dr s b2) with | .ok st r' => .ok ⟨nm, 2, 0, 0, st⟩ r' | .fail e r' => .fail e r') := by
          show rPred (dr s k) = _
          rw [HT2.out, dr_cons s b2 hlt]
          unfold rAsk
          simp only
          rw [if_pos (by omega)]
        cases hres5 : rMarkStr [61] (dr s b2) with
        | fail ee r5 =>
          rw [hres5] at hb5 HA
          have HW : Hid (rPred (dr s k) = .fail ee r5) := HA.out
          have HR : Hid (Rd (w5.setCell ⟨w2.heap.size, 4, none⟩ (.string ⟨#[]⟩)) p s b5 ∧ dr s b5 = r5 ∧ Kp w (w5.setCell ⟨w2.heap.size, 4, none⟩ (.string ⟨#[]⟩)) p) := ⟨hR5.setF hnp _, hb5, (HX.out.2.trans hK5).setF (by omega) _⟩
          have hY6 : (w5.setCell ⟨w2.heap.size, 4, none⟩ (.string ⟨#[]⟩)).heap[w.heap.size]? = some (.cells #[.string ⟨#[]⟩, .int .i64 0, .int .i64 0, .int .i64 0, .string ⟨#[]⟩] 134 (0, 0)) := set_far hY5 hnr
          obtain ⟨d0, d1, d2, d3, d4, df⟩ := five hX5
          obtain ⟨c0, c1, c2, c3, c4, cf⟩ := five hY6
          have c0' := cf 0
          have c1' := cf 1
          have c2' := cf 2
          have c3' := cf 3
          have c4' := cf 4
          have df4 := df 4
          have ll5 := lt_of_block hX5
          have ll6 := lt_of_block hY6
          clear hb5 hR5 hK5 hres5 hX5 hY5 hY6 hX hY HX HA cf df
          cases ee
          all_goals
            simp only [wordV, ec]
            go_wp2
            refine bodyPost_ret (v := predV (rPred (dr s k))) (by rw [HW.out]; simp [results, Tryz.results93, go_sem, predV, aggZ, ec, c0, c1, c2, c3, c4]) rfl ⟨rfl, b5, HR.out.1.set5 hne _ _ _ _ _, by rw [HW.out]; exact HR.out.2.1, HR.out.2.2.set5 (Nat.le_refl _) _ _ _ _ _⟩
        | ok st r5 =>
          rw [hres5] at hb5 HA
          have HW : Hid (rPred (dr s k) = .ok ⟨nm, 2, 0, 0, st⟩ r5) := HA.out
          obtain ⟨ST, hST⟩ : ∃ ST, ST = ba st := ⟨_, rfl⟩
          have HSTe : Hid (ST = ba st) := hST
          simp only [wordV]
          rw [← hST]
          clear hST
          have HR : Hid (Rd (w5.setCell ⟨w2.heap.size, 4, none⟩ (.string ST)) p s b5 ∧ dr s b5 = r5 ∧ Kp w (w5.setCell ⟨w2.heap.size, 4, none⟩ (.string ST)) p) := ⟨hR5.setF hnp _, hb5, (HX.out.2.trans hK5).setF (by omega) _⟩
          have hY6 : (w5.setCell ⟨w2.heap.size, 4, none⟩ (.string ST)).heap[w.heap.size]? = some (.cells #[.string ⟨#[]⟩, .int .i64 0, .int .i64 0, .int .i64 0, .string ⟨#[]⟩] 134 (0, 0)) := set_far hY5 hnr
          have hX6 : (w5.setCell ⟨w2.heap.size, 4, none⟩ (.string ST)).heap[w2.heap.size]? = some (.cells #[.string NM, .int .i64 2, .int .i64 0, .int .i64 0, .string ST] 134 (0, 0)) := five_s hX5 4 _ _ rfl
          obtain ⟨f0, f1, f2, f3, f4, ff⟩ := five hX5
          obtain ⟨d0, d1, d2, d3, d4, df⟩ := five hX6
          obtain ⟨c0, c1, c2, c3, c4, cf⟩ := five hY6
          have c0' := cf 0
          have c1' := cf 1
          have c2' := cf 2
          have c3' := cf 3
          have c4' := cf 4
          have ff4 := ff 4
          have ll5 := lt_of_block hX5
          have ll6 := lt_of_block hY6
          have ll7 := lt_of_block hX6
          clear hb5 hR5 hK5 hres5 hX5 hY5 hY6 hX hY HX HA cf df hX6 ff
          go_wp2
          refine bodyPost_ret (v := predV (rPred (dr s k))) (by rw [HW.out]; simp [results, Tryz.results93, go_sem, predV, Pl.agg, c0, c1, c2, c3, c4, ← HNM.out, ← HSTe.out]) rfl ⟨rfl, b5, HR.out.1.set5 hne _ _ _ _ _, by rw [HW.out]; exact HR.out.2.1, HR.out.2.2.set5 (Nat.le_refl _) _ _ _ _ _⟩
      · have h61b : ((s[b2].toNat : Int) == 61) = false := by simpa using h61
        have h61c : ((s[b2].toNat : Int) == (((⟨#[61]⟩ : ByteArray)[0]'(by decide)).toNat : Int)) = false := h61b
        by_cases h94 : (s[b2].toNat : Int) = 94
        · have df1 := df 1
          have hX : ((W3.drewN nq).setCell ⟨w2.heap.size, 1, none⟩ (.int .i64 3)).heap[w2.heap.size]? = some (.cells #[.string NM, .int .i64 3, .int .i64 0, .int .i64 0, .string ⟨#[]⟩] 134 (0, 0)) := five_s (w := W3.drewN nq) hy3 1 _ _ rfl
          have hY : ((W3.drewN nq).setCell ⟨w2.heap.size, 1, none⟩ (.int .i64 3)).heap[w.heap.size]? = some (.cells #[.string ⟨#[]⟩, .int .i64 0, .int .i64 0, .int .i64 0, .string ⟨#[]⟩] 134 (0, 0)) := set_far (w := W3.drewN nq) hx3 hnr
          have HX : Hid (Rd ((W3.drewN nq).setCell ⟨w2.heap.size, 1, none⟩ (.int .i64 3)) p s b2 ∧ Kp w ((W3.drewN nq).setCell ⟨w2.heap.size, 1, none⟩ (.int .i64 3)) p) := ⟨(hR3.drewN nq).setF hnp _, (HK3.out.drewN nq).setF (by omega) _⟩
          go_wp2_with fail
          generalize ((W3.drewN nq).setCell ⟨w2.heap.size, 1, none⟩ (.int .i64 3)) = X at hX hY HX ⊢
          clear z0 z1 zl d0 d1 d2 d3 d4 df df1 hx3 hy3 hR3 HK3
          refine (markStr_any p s ⟨#[94, 61]⟩ b2 _ HX.out.1 hs (by decide)).mono ?_
          rintro e w5 ⟨rfl, b5, hR5, hb5, hK5⟩
          have em : (⟨#[94, 61]⟩ : ByteArray).data.toList = [94, 61] := rfl
          rw [em] at hb5 ⊢
          clear em
          have hX5 := (hK5.block _ (lt_of_block hX) hnp).trans hX
          have hY5 := (hK5.block _ (lt_of_block hY) hne).trans hY
          have HA : Hid (rPred (dr s k) = match rMarkStr [94, 61] (dr s b2) with | .ok st r' => .ok ⟨nm, 3, 0, 0, st⟩ r' | .fail e r' => .fail e r') := by
            show rPred (dr s k) = _
            rw [HT2.out, dr_cons s b2 hlt]
            unfold rAsk
            simp only
            rw [if_neg (by omega), if_pos (by omega)]
          cases hres5 : rMarkStr [94, 61] (dr s b2) with
          | fail ee r5 =>
            rw [hres5] at hb5 HA
            have HW : Hid (rPred (dr s k) = .fail ee r5) := HA.out
            have HR : Hid (Rd (w5.setCell ⟨w2.heap.size, 4, none⟩ (.string ⟨#[]⟩)) p s b5 ∧ dr s b5 = r5 ∧ Kp w (w5.setCell ⟨w2.heap.size, 4, none⟩ (.string ⟨#[]⟩)) p) := ⟨hR5.setF hnp _, hb5, (HX.out.2.trans hK5).setF (by omega) _⟩
            have hY6 : (w5.setCell ⟨w2.heap.size, 4, none⟩ (.string ⟨#[]⟩)).heap[w.heap.size]? = some (.cells #[.string ⟨#[]⟩, .int .i64 0, .int .i64 0, .int .i64 0, .string ⟨#[]⟩] 134 (0, 0)) := set_far hY5 hnr
            obtain ⟨d0, d1, d2, d3, d4, df⟩ := five hX5
            obtain ⟨c0, c1, c2, c3, c4, cf⟩ := five hY6
            have c0' := cf 0
            have c1' := cf 1
            have c2' := cf 2
            have c3' := cf 3
            have c4' := cf 4
            have df4 := df 4
            have ll5 := lt_of_block hX5
            have ll6 := lt_of_block hY6
            clear hb5 hR5 hK5 hres5 hX5 hY5 hY6 hX hY HX HA cf df
            cases ee
            all_goals
              simp only [wordV, ec]
              go_wp2
              refine bodyPost_ret (v := predV (rPred (dr s k))) (by rw [HW.out]; simp [results, Tryz.results93, go_sem, predV, aggZ, ec, c0, c1, c2, c3, c4]) rfl ⟨rfl, b5, HR.out.1.set5 hne _ _ _ _ _, by rw [HW.out]; exact HR.out.2.1, HR.out.2.2.set5 (Nat.le_refl _) _ _ _ _ _⟩
          | ok st r5 =>
            rw [hres5] at hb5 HA
            have HW : Hid (rPred (dr s k) = .ok ⟨nm, 3, 0, 0, st⟩ r5) := HA.out
            obtain ⟨ST, hST⟩ : ∃ ST, ST = ba st := ⟨_, rfl⟩
            have HSTe : Hid (ST = ba st) := hST
            simp only [wordV]
            rw [← hST]
            clear hST
            have HR : Hid (Rd (w5.setCell ⟨w2.heap.size, 4, none⟩ (.string ST)) p s b5 ∧ dr s b5 = r5 ∧ Kp w (w5.setCell ⟨w2.heap.size, 4, none⟩ (.string ST)) p) := ⟨hR5.setF hnp _, hb5, (HX.out.2.trans hK5).setF (by omega) _⟩
            have hY6 : (w5.setCell ⟨w2.heap.size, 4, none⟩ (.string ST)).heap[w.heap.size]? = some (.cells #[.string ⟨#[]⟩, .int .i64 0, .int .i64 0, .int .i64 0, .string ⟨#[]⟩] 134 (0, 0)) := set_far hY5 hnr
            have hX6 : (w5.setCell ⟨w2.heap.size, 4, none⟩ (.string ST)).heap[w2.heap.size]? = some (.cells #[.string NM, .int .i64 3, .int .i64 0, .int .i64 0, .string ST] 134 (0, 0)) := five_s hX5 4 _ _ rfl
            obtain ⟨f0, f1, f2, f3, f4, ff⟩ := five hX5
            obtain ⟨d0, d1, d2, d3, d4, df⟩ := five hX6
            obtain ⟨c0, c1, c2, c3, c4, cf⟩ := five hY6
            have c0' := cf 0
            have c1' := cf 1
            have c2' := cf 2
            have c3' := cf 3
            have c4' := cf 4
            have ff4 := ff 4
            have ll5 := lt_of_block hX5
            have ll6 := lt_of_block hY6
            have ll7 := lt_of_block hX6
            clear hb5 hR5 hK5 hres5 hX5 hY5 hY6 hX hY HX HA cf df hX6 ff
            go_wp2
            refine bodyPost_ret (v := predV (rPred (dr s k))) (by rw [HW.out]; simp [results, Tryz.results93, go_sem, predV, Pl.agg, c0, c1, c2, c3, c4, ← HNM.out, ← HSTe.out]) rfl ⟨rfl, b5, HR.out.1.set5 hne _ _ _ _ _, by rw [HW.out]; exact HR.out.2.1, HR.out.2.2.set5 (Nat.le_refl _) _ _ _ _ _⟩
        · have h94b : ((s[b2].toNat : Int) == 94) = false := by simpa using h94
          have h94c : ((s[b2].toNat : Int) == (((⟨#[94, 61]⟩ : ByteArray)[0]'(by decide)).toNat : Int)) = false := h94b
          have df1 := df 1
          have hX : ((W3.drewN nq).setCell ⟨w2.heap.size, 1, none⟩ (.int .i64 1)).heap[w2.heap.size]? = some (.cells #[.string NM, .int .i64 1, .int .i64 0, .int .i64 0, .string ⟨#[]⟩] 134 (0, 0)) := five_s (w := W3.drewN nq) hy3 1 _ _ rfl
          have hY : ((W3.drewN nq).setCell ⟨w2.heap.size, 1, none⟩ (.int .i64 1)).heap[w.heap.size]? = some (.cells #[.string ⟨#[]⟩, .int .i64 0, .int .i64 0, .int .i64 0, .string ⟨#[]⟩] 134 (0, 0)) := set_far (w := W3.drewN nq) hx3 hnr
          have HX : Hid (Rd ((W3.drewN nq).setCell ⟨w2.heap.size, 1, none⟩ (.int .i64 1)) p s b2 ∧ Kp w ((W3.drewN nq).setCell ⟨w2.heap.size, 1, none⟩ (.int .i64 1)) p) := ⟨(hR3.drewN nq).setF hnp _, (HK3.out.drewN nq).setF (by omega) _⟩
          go_wp2_with fail
          generalize ((W3.drewN nq).setCell ⟨w2.heap.size, 1, none⟩ (.int .i64 1)) = X at hX hY HX ⊢
          clear z0 z1 zl d0 d1 d2 d3 d4 df df1 hx3 hy3 hR3 HK3
          refine (numbers_any p s b2 w0 _ HE.out.1 (HX.out.2.below HE.out.2.1 hp HE.out.2.1.size) hp HX.out.1 hs).mono ?_
          rintro e w5 ⟨rfl, b5, hR5, hb5, hK5⟩
          have hX5 := (hK5.block _ (lt_of_block hX) hnp).trans hX
          have hY5 := (hK5.block _ (lt_of_block hY) hne).trans hY
          have HA : Hid (rPred (dr s k) = match rNums (dr s b2) with | .ok v r' => .ok ⟨nm, 1, v.1, v.2, []⟩ r' | .fail e r' => .fail e r') := by
            show rPred (dr s k) = _
            rw [HT2.out, dr_cons s b2 hlt]
            unfold rAsk
            simp only
            rw [if_neg (by omega), if_neg (by omega)]
          cases hres5 : rNums (dr s b2) with
          | fail ee r5 =>
            rw [hres5] at hb5 HA
            have HW : Hid (rPred (dr s k) = .fail ee r5) := HA.out
            have HR : Hid (Rd ((w5.setCell ⟨w2.heap.size, 2, none⟩ (.int .i64 0)).setCell ⟨w2.heap.size, 3, none⟩ (.int .i64 0)) p s b5 ∧ dr s b5 = r5 ∧ Kp w ((w5.setCell ⟨w2.heap.size, 2, none⟩ (.int .i64 0)).setCell ⟨w2.heap.size, 3, none⟩ (.int .i64 0)) p) := ⟨(hR5.setF hnp _).setF hnp _, hb5, ((HX.out.2.trans hK5).setF (by omega) _).setF (by omega) _⟩
            have hY6 : ((w5.setCell ⟨w2.heap.size, 2, none⟩ (.int .i64 0)).setCell ⟨w2.heap.size, 3, none⟩ (.int .i64 0)).heap[w.heap.size]? = some (.cells #[.string ⟨#[]⟩, .int .i64 0, .int .i64 0, .int .i64 0, .string ⟨#[]⟩] 134 (0, 0)) := set_far (set_far hY5 hnr) hnr
            have hX6 : (w5.setCell ⟨w2.heap.size, 2, none⟩ (.int .i64 0)).heap[w2.heap.size]? = some (.cells #[.string NM, .int .i64 1, .int .i64 0, .int .i64 0, .string ⟨#[]⟩] 134 (0, 0)) := five_s hX5 2 _ _ rfl
            obtain ⟨d0, d1, d2, d3, d4, df⟩ := five hX5
            obtain ⟨g0, g1, g2, g3, g4, gf⟩ := five hX6
            obtain ⟨c0, c1, c2, c3, c4, cf⟩ := five hY6
            have c0' := cf 0
            have c1' := cf 1
            have c2' := cf 2
            have c3' := cf 3
            have c4' := cf 4
            have df2 := df 2
            have df3 := gf 3
            have ll5 := lt_of_block hX5
            have ll6 := lt_of_block hY6
            have ll7 := lt_of_block hX6
            clear hb5 hR5 hK5 hres5 hX5 hY5 hY6 hX hY HX HA cf df hX6 gf
            cases ee
            all_goals
              simp only [numsV, ec]
              go_wp2
              refine bodyPost_ret (v := predV (rPred (dr s k))) (by rw [HW.out]; simp [results, Tryz.results93, go_sem, predV, aggZ, ec, c0, c1, c2, c3, c4]) rfl ⟨rfl, b5, HR.out.1.set5 hne _ _ _ _ _, by rw [HW.out]; exact HR.out.2.1, HR.out.2.2.set5 (Nat.le_refl _) _ _ _ _ _⟩
          | ok v r5 =>
            obtain ⟨lo, hi⟩ := v
            rw [hres5] at hb5 HA
            have HW : Hid (rPred (dr s k) = .ok ⟨nm, 1, lo, hi, []⟩ r5) := HA.out
            have HR : Hid (Rd ((w5.setCell ⟨w2.heap.size, 2, none⟩ (.int .i64 lo)).setCell ⟨w2.heap.size, 3, none⟩ (.int .i64 hi)) p s b5 ∧ dr s b5 = r5 ∧ Kp w ((w5.setCell ⟨w2.heap.size, 2, none⟩ (.int .i64 lo)).setCell ⟨w2.heap.size, 3, none⟩ (.int .i64 hi)) p) := ⟨(hR5.setF hnp _).setF hnp _, hb5, ((HX.out.2.trans hK5).setF (by omega) _).setF (by omega) _⟩
            have hY6 : ((w5.setCell ⟨w2.heap.size, 2, none⟩ (.int .i64 lo)).setCell ⟨w2.heap.size, 3, none⟩ (.int .i64 hi)).heap[w.heap.size]? = some (.cells #[.string ⟨#[]⟩, .int .i64 0, .int .i64 0, .int .i64 0, .string ⟨#[]⟩] 134 (0, 0)) := set_far (set_far hY5 hnr) hnr
            have hX6 : (w5.setCell ⟨w2.heap.size, 2, none⟩ (.int .i64 lo)).heap[w2.heap.size]? = some (.cells #[.string NM, .int .i64 1, .int .i64 lo, .int .i64 0, .string ⟨#[]⟩] 134 (0, 0)) := five_s hX5 2 _ _ rfl
            have hX7 : ((w5.setCell ⟨w2.heap.size, 2, none⟩ (.int .i64 lo)).setCell ⟨w2.heap.size, 3, none⟩ (.int .i64 hi)).heap[w2.heap.size]? = some (.cells #[.string NM, .int .i64 1, .int .i64 lo, .int .i64 hi, .string ⟨#[]⟩] 134 (0, 0)) := five_s hX6 3 _ _ rfl
            obtain ⟨f0, f1, f2, f3, f4, ff⟩ := five hX5
            obtain ⟨g0, g1, g2, g3, g4, gf⟩ := five hX6
            obtain ⟨d0, d1, d2, d3, d4, df⟩ := five hX7
            obtain ⟨c0, c1, c2, c3, c4, cf⟩ := five hY6
            have c0' := cf 0
            have c1' := cf 1
            have c2' := cf 2
            have c3' := cf 3
            have c4' := cf 4
            have ff2 := ff 2
            have ff3 := gf 3
            have ll5 := lt_of_block hX5
            have ll6 := lt_of_block hY6
            have ll7 := lt_of_block hX6
            have ll8 := lt_of_block hX7
            have hbn : ba [] = ⟨#[]⟩ := rfl
            have HBN : Hid (ba [] = ⟨#[]⟩) := hbn
            clear hb5 hR5 hK5 hres5 hX5 hY5 hY6 hX hY HX HA cf df hX6 hX7 ff gf hbn
            simp only [numsV]
            go_wp2
            refine bodyPost_ret (v := predV (rPred (dr s k))) (by rw [HW.out]; simp [results, Tryz.results93, go_sem, predV, Pl.agg, c0, c1, c2, c3, c4, ← HNM.out, HBN.out]) rfl ⟨rfl, b5, HR.out.1.set5 hne _ _ _ _ _, by rw [HW.out]; exact HR.out.2.1, HR.out.2.2.set5 (Nat.le_refl _) _ _ _ _ _⟩
end Go.Proofs.YtkncpojijfeahaaGreatDoor
