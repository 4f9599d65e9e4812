/- wigwaglaw11.Made: a ring and the document's, behind any calls. -/
import Derived.Test.YtmajlldfiiokoaaGreatDoorRfD
import Derived.Test.YtmajlldfiiokoaaGreatDoorRiseMath
import Derived.Deep.LoopGhost
namespace Go.Proofs.YtmajlldfiiokoaaGreatDoor
open Go.ChangeShapes Go.WideShapes Go.ChangeAt Go.RowKit Go.Deep
set_option linter.unusedVariables false

def Sl4 (x0 x1 x2 x3 : Value) : Prop := (∃ a n c, x0 = .slice a n c) ∧ (∃ a n c, x1 = .slice a n c) ∧ (∃ a n c, x2 = .slice a n c) ∧ (∃ a n c, x3 = .slice a n c)
theorem cnew_any (a : Option Addr) (n cap : Nat) (l : List Int) (w : World) (h : IdIn w a n l) :
    Calls Tryz.prog 44 #[.slice a n cap] w fun e w' =>
      ((∃ c : Int, e = .returned (.tuple #[.pointer none, .iface 116 (.int .i64 c)])) ∨
       (∃ (S : List Int) (r gp gk : Nat), n = 4 ∧ S.Pairwise (· < ·) ∧ (∀ x, x ∈ S ↔ x ∈ l) ∧ e = .returned (.tuple #[.pointer (some ⟨r, 0, none⟩), .nilIface]) ∧ Rn w w' r gp gk (newTo l (circleOf l S) 4))) ∧ Below w.heap.size w w' := by
  by_cases hn : n ≠ 4
  · refine (new_len a n cap w hn h.2.1).mono ?_
    rintro e w' ⟨he, hb⟩
    exact ⟨.inl ⟨1, he⟩, hb⟩
  · obtain rfl : n = 4 := by omega
    refine (new_four a cap l w h).mono ?_
    rintro e w' ⟨h2, hb⟩
    rcases h2 with ⟨S, hp, hm, hl, he⟩ | ⟨S, r, gp, gk, hp, hm, hl, he, hr, g1, g2, g3⟩
    · exact ⟨.inl ⟨8, he⟩, hb⟩
    · obtain ⟨c0, c1, c2, c3, hc⟩ := circ_of h.1 hp hm hl
      exact ⟨.inr ⟨S, r, gp, gk, rfl, hp, hm, he, ⟨hr, hc.inv hp hm (getD_u64 h), hb, g2, g3⟩⟩, hb⟩
theorem rnew_any (a : Option Addr) (n cap : Nat) (l : List Int) (w : World) (h : IdIn w a n l) :
    Calls Tryz.prog 45 #[.slice a n cap] w fun e w' => ∃ (x0 x1 x2 x3 : Value) (c : Int), e = .returned (.tuple #[.agg #[x0, x1, x2, x3], .int .i64 c]) ∧ Sl4 x0 x1 x2 x3 ∧ (c = 0 → ∃ S : List Int, S.Pairwise (· < ·) ∧ (∀ x, x ∈ S ↔ x ∈ l) ∧ RfV w' (newTo l (circleOf l S) 4) (.agg #[x0, x1, x2, x3])) ∧ Below w.heap.size w w' := by
  by_cases hn : n ≠ 4
  · refine (rnew_len a n cap w hn h.2.1).mono ?_
    rintro e w' ⟨he, hb⟩
    exact ⟨_, _, _, _, 1, he, ⟨⟨_, _, _, rfl⟩, ⟨_, _, _, rfl⟩, ⟨_, _, _, rfl⟩, ⟨_, _, _, rfl⟩⟩, fun q => by omega, hb⟩
  · obtain rfl : n = 4 := by omega
    refine (rnew_four a cap l w h).mono ?_
    rintro e w' ⟨h2, hb⟩
    rcases h2 with ⟨S, hp, hm, hl, he⟩ | ⟨S, v', hp, hm, hl, he, hv⟩
    · exact ⟨_, _, _, _, 8, he, ⟨⟨_, _, _, rfl⟩, ⟨_, _, _, rfl⟩, ⟨_, _, _, rfl⟩, ⟨_, _, _, rfl⟩⟩, fun q => by omega, hb⟩
    · obtain ⟨x0, x1, x2, x3, rfl, ua, uc, la, lc, ia, ic, pa, pc, rfl, rfl, rfl, rfl⟩ := hv.shape
      exact ⟨_, _, _, _, 0, he, ⟨⟨_, _, _, rfl⟩, ⟨_, _, _, rfl⟩, ⟨_, _, _, rfl⟩, ⟨_, _, _, rfl⟩⟩, fun _ => ⟨S, hp, hm, hv⟩, hb⟩
theorem RingAt.cells_ne {w : World} {r gp gk q : Nat} {R : Rg} {x0 x1 x2 x3 : Value} {t : TypeId} (h : RingAt w r gp gk R) (hq : w.heap[q]? = some (.cells #[x0, x1, x2, x3] t (0, 0))) : q ≠ gp ∧ q ≠ gk ∧ q ≠ r := by
  obtain ⟨mp, ⟨_, e1, c1, hp, _⟩, _⟩ := h.places
  obtain ⟨mk, ⟨_, e2, c2, hk, _⟩, _⟩ := h.known
  refine ⟨fun e => ?_, fun e => ?_, fun e => ?_⟩
  · rw [e, hp] at hq; cases hq
  · rw [e, hk] at hq; cases hq
  · rw [e, h.box] at hq; cases hq
/-- A ring, the document's in its box, and the answer's box. -/
structure MdI (w wr : World) (r gp gk : Nat) (R : Rg) (q : Nat) (x0 x1 x2 x3 : Value) : Prop where
  rn : Rn w wr r gp gk R
  box : wr.heap[q]? = some (.cells #[x0, x1, x2, x3] 32 (0, 0))
  res : wr.heap[w.heap.size]? = some (.cells #[.slice none 0 0, .slice none 0 0, .slice none 0 0, .slice none 0 0] 32 (0, 0))
  v : RfV wr R (.agg #[x0, x1, x2, x3])
  sl : Sl4 x0 x1 x2 x3
  lt : w.heap.size < q
theorem Rn.set4 {w X : World} {r gp gk q : Nat} {R : Rg} {x0 x1 x2 x3 : Value} (h : Rn w X r gp gk R) (hq : X.heap[q]? = some (.cells #[x0, x1, x2, x3] 32 (0, 0))) (hs : Sl4 x0 x1 x2 x3) (hl : w.heap.size ≤ q) (y0 y1 y2 y3 : Value) : Rn w (set4 X q y0 y1 y2 y3) r gp gk R := by
  have hoff := off_set4 hq hs.1 hs.2.1 hs.2.2.1 hs.2.2.2 y0 y1 y2 y3
  have hn := h.ring.cells_ne hq
  exact ⟨h.ring.off (p := q) (by rw [set4_size]; exact Nat.le_refl _) (fun b hb => set4_other hb _ _ _ _) (Ne.symm hn.2.2) (Ne.symm hn.1) (Ne.symm hn.2.1) hoff, h.inv, set4_below h.bel hl _ _ _ _, h.gp, h.gk⟩
theorem MdI.step {w wr X9 : World} {r gp gk q : Nat} {R R' : Rg} {x0 x1 x2 x3 y0 y1 y2 y3 : Value} (h : MdI w wr r gp gk R q x0 x1 x2 x3) (hr : Rn w X9 r gp gk R') (hv : RfV X9 R' (.agg #[y0, y1, y2, y3])) (k : Kp wr X9 gp gk) (hy : Sl4 y0 y1 y2 y3) :
    MdI w (set4 X9 q y0 y1 y2 y3) r gp gk R' q y0 y1 y2 y3 ∧ X9.heap[q]? = some (.cells #[x0, x1, x2, x3] 32 (0, 0)) := by
  have n1 := h.rn.ring.cells_ne h.box
  have n2 := h.rn.ring.cells_ne h.res
  have b1 : X9.heap[q]? = some (.cells #[x0, x1, x2, x3] 32 (0, 0)) := (k.block q (lt_of_block h.box) n1.1 n1.2.1).trans h.box
  have b2 := (k.block _ (lt_of_block h.res) n2.1 n2.2.1).trans h.res
  have hoff := off_set4 b1 h.sl.1 h.sl.2.1 h.sl.2.2.1 h.sl.2.2.2 y0 y1 y2 y3
  have hlt := h.lt
  exact ⟨⟨hr.set4 b1 h.sl (Nat.le_of_lt hlt) _ _ _ _, set4_box b1 _ _ _ _, (set4_other (by omega) _ _ _ _).trans b2, hv.off (by rw [set4_size]; exact Nat.le_refl _) hoff, hy, hlt⟩, b1⟩
/-- What a call on both leaves in its box. -/
def MdC (w wr X : World) (r gp gk : Nat) (R' : Rg) (g : Nat) (y0 y1 y2 y3 : Value) : Prop := X.heap[g]? = some (.cells #[y0, y1, y2, y3] 32 (0, 0)) ∧ Rn w X r gp gk R' ∧ RfV X R' (.agg #[y0, y1, y2, y3]) ∧ Kp wr X gp gk
theorem MdC.a {w wr w9 : World} {r gp gk : Nat} {R' : Rg} {y0 y1 y2 y3 : Value} (hr : Rn w w9 r gp gk R') (hv : RfV w9 R' (.agg #[y0, y1, y2, y3])) (k : Kp wr w9 gp gk) : MdC w wr (w9.alloc (.cells #[y0, y1, y2, y3] 32)) r gp gk R' w9.heap.size y0 y1 y2 y3 :=
  ⟨heap_alloc_new w9 _, hr.below (below_one _ _), hv.below (below_one _ _), k.trans (Kp.ofBelow (below_one _ _))⟩
theorem MdC.b {w wr w9 : World} {r gp gk : Nat} {R' : Rg} {y0 y1 y2 y3 : Value} (hr : Rn w w9 r gp gk R') (hv : RfV w9 R' (.agg #[y0, y1, y2, y3])) (k : Kp wr w9 gp gk) (hl : w.heap.size ≤ wr.heap.size) (hz : w9.heap[wr.heap.size]? = some (.cells #[.slice none 0 0, .slice none 0 0, .slice none 0 0, .slice none 0 0] 32 (0, 0))) : MdC w wr (set4 w9 wr.heap.size y0 y1 y2 y3) r gp gk R' wr.heap.size y0 y1 y2 y3 := by
  have e := set4_below (Below.refl wr.heap.size w9) (Nat.le_refl _) y0 y1 y2 y3
  refine ⟨set4_box hz _ _ _ _, hr.set4 hz ⟨⟨_, _, _, rfl⟩, ⟨_, _, _, rfl⟩, ⟨_, _, _, rfl⟩, ⟨_, _, _, rfl⟩⟩ hl _ _ _ _, hv.off (by rw [set4_size]; exact Nat.le_refl _) (off_set4 hz ⟨_, _, _, rfl⟩ ⟨_, _, _, rfl⟩ ⟨_, _, _, rfl⟩ ⟨_, _, _, rfl⟩ _ _ _ _), ?_⟩
  exact ⟨e.os.trans k.os, e.tape.trans k.tape, e.output.trans k.output, by rw [set4_size]; exact k.size, fun b hb h1 h2 => (set4_other (by omega) _ _ _ _).trans (k.block b hb h1 h2)⟩
theorem sl_to6 (a : Option Addr) (n c : Nat) (W : World) (hn : 6 < n) (hc : n ≤ c) : (Instr.slice 22 (.slice a n c) none (some (.int .i64 6)) none).run Tryz.prog W = .ok (.slice a 6 c) W := by
  simp [go_sem, Tryz.underlying22]
  omega
theorem in_take {w : World} {a : Option Addr} {n : Nat} {l : List Int} (h : IdIn w a n l) (m : Nat) (hm : m ≤ n) : IdIn w a m (l.take m) := by
  have h2 := h.2.1
  refine ⟨by have := h.1; simp; omega, by omega, ?_⟩
  rcases h.2.2 with h0 | ⟨b, o, ha, hlt, hc⟩
  · exact .inl (by omega)
  · refine .inr ⟨b, o, ha, hlt, fun i hi => ?_⟩
    have e : (l.take m).getD i 0 = l.getD i 0 := by simp [List.getD, hi]
    rw [e]; exact hc i (by omega)
theorem made_ids {w wr : World} {a : Option Addr} {n c : Nat} {l : List Int} (h : Made w wr (.slice a n c) l) (hn : n = l.length) (hok : ∀ x ∈ l, u64 x) (hm : n ≤ 9223372036854775807) : IdIn wr a n l := by
  refine ⟨hn.symm, hm, ?_⟩
  rcases h.row.2 with ⟨e, h0⟩ | ⟨g, cap, cur, e, hB, hg, hc, hmx, hs, ht⟩
  · exact .inl (by omega)
  · cases e
    have hr : wr.ownsRow w.heap.size 58 1 (.slice (some ⟨g, 0, none⟩) l.length c) l.length (l.map (Value.int .u64)) := h.row
    refine .inr ⟨g, 0, rfl, lt_of_block hg, fun i hi => ⟨hok _ ?_, fun j hj => ?_⟩⟩
    · rw [List.getD_eq_getElem?_getD, List.getElem?_eq_getElem (by omega)]; simp
    · obtain rfl : j = 0 := by omega
      have e := hr.cells (g := g) rfl i (.int .u64 (l.getD i 0)) (by have : i < l.length := hi; simp [List.getD, this])
      rw [Addr.add_lit] at e
      simpa [encU] using e

set_option maxRecDepth 100000 in
set_option maxHeartbeats 8000000 in
theorem made_r (a0 : Option Addr) (len0 cap0 : Nat) (t0 : List Int) (a1 : Option Addr) (len1 cap1 : Nat) (t1 : List Ac10) (N : Nat) (w : World) (hi : IdIn w a0 len0 t0) (hc0 : len0 ≤ cap0) (ha : AcIn w a1 len1 t1) (hE : ErrType w) (hN : N ≤ 1000) :
    Calls Tryz.prog 8 #[.slice a0 len0 cap0, .slice a1 len1 cap1, .int .i64 N] w fun e w' =>
      (∃ x0 x1 x2 x3, e = .returned (.tuple #[.pointer none, .agg #[x0, x1, x2, x3], .bool false]) ∧ Sl4 x0 x1 x2 x3 ∧ Below w.heap.size w w') ∨
      (∃ r gp gk R x0 x1 x2 x3, e = .returned (.tuple #[.pointer (some ⟨r, 0, none⟩), .agg #[x0, x1, x2, x3], .bool true]) ∧ Sl4 x0 x1 x2 x3 ∧ Rn w w' r gp gk R ∧ RfV w' R (.agg #[x0, x1, x2, x3])) := by
  obtain ⟨i0, hif, hz0, hz1, hz2⟩ := info_parts' Tryz.infoU64
  have HI : Hid (IdIn w a0 len0 t0) := hi
  have HT : Hid (AcIn w a1 len1 t1) := ha
  have HE : Hid (ErrType w) := hE
  have hm0 := hi.2.1
  have hm1 := ha.2.1
  clear hi ha hE
  go_enter Tryz.func8, Tryz.ntmps8
  obtain ⟨W1, hW1⟩ : ∃ W1, W1 = w.alloc (.cells #[.slice none 0 0, .slice none 0 0, .slice none 0 0, .slice none 0 0] 32) := ⟨_, rfl⟩
  have H1 : Hid (Below w.heap.size w W1 ∧ W1.heap[w.heap.size]? = some (.cells #[.slice none 0 0, .slice none 0 0, .slice none 0 0, .slice none 0 0] 32 (0, 0))) := by rw [hW1]; exact ⟨below_one _ _, heap_alloc_new _ _⟩
  go_upto_region 1 with fail
  rw [← hW1]
  clear hW1
  go_upto_if 21 with fail
  go_cut [0] (fun v wx => ∃ (n c : Nat) (l : List Int), v = .slice a0 n c ∧ n ≤ 6 ∧ W1 = wx ∧ Hid (IdIn w a0 n l))
  case first =>
    by_cases q6 : 6 < len0
    · have e6 := fun W => sl_to6 a0 len0 cap0 W q6 hc0
      have q6' : (6 : Int) < (len0 : Int) := by omega
      go_wp2
      go_meet
      exact ⟨6, cap0, t0.take 6, rfl, Nat.le_refl _, rfl, in_take HI.out 6 (by omega)⟩
    · have q6' : ¬ (6 : Int) < (len0 : Int) := by omega
      go_wp2
      go_meet
      exact ⟨len0, cap0, t0, rfl, by omega, rfl, HI.out⟩
  case rest =>
    obtain ⟨n, c, l, rfl, hn6, hwx, HL⟩ := hcut
    subst hwx
    clear HI hc0 hm0
    go_wp2
    go_loopg [9, 27] n (fun kx v s wr => ∃ k : Nat, s = .int .i64 k ∧ k ≤ n ∧ kx = n - k ∧ Hid (Made W1 wr v (l.take k)))
    case atStart => exact ⟨0, rfl, Nat.zero_le _, by omega, Made.empty W1⟩
    case round =>
      obtain ⟨k, rfl, hk, rfl, HG⟩ := hrel
      have HLk : Hid ((l.take k).length = k) := by show (l.take k).length = k; have := HL.out.1; simp; omega
      obtain ⟨ua, uc, hu⟩ := HG.out.shape
      rw [HLk.out] at hu
      have BW : Hid (Below w.heap.size w wr) := H1.out.1.trans (HG.out.below.mono H1.out.1.size)
      by_cases hlt : k < n
      · have hkI : (0 : Int) ≤ (k : Int) ∧ (k : Int) < (n : Int) := by omega
        obtain ⟨b, o, hb, hbb, _, hc⟩ := (HL.out.below (Nat.le_refl _) BW.out).one (v := Value.int .u64) (fun _ => rfl) (i := k) hlt
        have HTk : Hid (l.take (k + 1) = l.take k ++ [l.getD k 0]) := by
          show _ = _
          have hkl : k < l.length := by have := HL.out.1; omega
          rw [List.take_add_one, List.getD_eq_getElem?_getD, List.getElem?_eq_getElem hkl]; rfl
        obtain ⟨y, hy⟩ : ∃ y, y = l.getD k 0 := ⟨_, rfl⟩
        rw [← hy] at hc HTk
        clear hy
        subst hb
        subst hu
        have HA : Hid ((wr.alloc (.cells #[.int .u64 y] 58)).ownsRow W1.heap.size 58 1 (.slice ua k uc) k ((l.take k).map (Value.int .u64))) := by
          have := HG.out.row.alloc (.cells #[.int .u64 y] 58)
          rw [HLk.out] at this
          exact this
        have HSz : Hid (W1.heap.size ≤ wr.heap.size) := HG.out.size
        go_wp2_with (at_builtin; refine wpList_own_append _ rfl _ _ 27 27 rfl W1.heap.size 58 i0 (.int .u64 0) 8 Tryz.underlying27 hif hz0 hz1 hz2 rfl _ _ _ rfl HA.out _ 1 [.int .u64 y] rfl (src_u64 wr y _) ?c3 ?c4 ?c5 ?_)
        case c3 => unfold maxLen; omega
        case c4 => omega
        case c5 => have := HSz.out; simp; omega
        intro v' w3 ha
        have G' : Hid (Made W1 w3 v' (l.take (k + 1))) := by rw [HTk.out]; rw [← List.map_take] at ha; exact HG.out.app (by rw [HLk.out]) ha
        clear ha HA
        go_wp2
        go_roundg (n - (k + 1))
        case measure => omega
        case rel => exact ⟨k + 1, by go_num, by omega, rfl, G'⟩
      · obtain rfl : k = n := by omega
        have hkn : ¬ (k : Int) < (k : Int) := by omega
        have HG2 : Hid (Made W1 wr (.slice ua k uc) l) := by
          subst hu
          have e : l.take k = l := List.take_of_length_le (by have := HL.out.1; omega)
          have := HG.out
          rw [e] at this
          exact this
        subst hu
        have hl1 := lt_of_block H1.out.2
        have H2 : Hid (IdIn wr a0 k l ∧ IdIn wr ua k l ∧ Below w.heap.size w wr ∧ wr.heap[w.heap.size]? = some (.cells #[.slice none 0 0, .slice none 0 0, .slice none 0 0, .slice none 0 0] 32 (0, 0))) := by
          have hL := HL.out.below (Nat.le_refl _) BW.out
          refine ⟨hL, made_ids HG2.out HL.out.1.symm (fun x hx => ?_) (by omega), BW.out, (HG2.out.below.block _ hl1).trans H1.out.2⟩
          by_cases k0 : 0 < k
          · exact inrow_ok hL k0 x hx
          · have : l = [] := List.eq_nil_of_length_eq_zero (by have := HL.out.1; omega)
            rw [this] at hx; cases hx
        obtain ⟨w2, hw2⟩ : ∃ w2, w2 = wr := ⟨_, rfl⟩
        rw [← hw2] at H2 ⊢
        clear hw2 HG HG2 BW HLk HL hl1 H1 hk
        go_wp2_with fail
        refine (cnew_any a0 k c l w2 H2.out.1).mono ?_
        rintro e w3 ⟨h3, b3⟩
        have B3 : Hid (Below w2.heap.size w2 w3) := b3
        clear b3
        rcases h3 with ⟨ec, rfl⟩ | ⟨S, r, gp, gk, hk4, hp, hmm, rfl, hrn⟩
        · go_wp2_with fail
          refine (rnew_any ua k uc l w3 (H2.out.2.1.below (Nat.le_refl _) B3.out)).mono ?_
          rintro e w4 ⟨x0, x1, x2, x3, cc, rfl, hsl, _, b4⟩
          have HS : Hid (Sl4 x0 x1 x2 x3) := hsl
          obtain ⟨⟨p0, p1, p2, rfl⟩, ⟨p3, p4, p5, rfl⟩, ⟨p6, p7, p8, rfl⟩, ⟨p9, p10, p11, rfl⟩⟩ := hsl
          obtain ⟨W4, hW4⟩ : ∃ W4, W4 = w4.alloc (.cells #[.slice p0 p1 p2, .slice p3 p4 p5, .slice p6 p7 p8, .slice p9 p10 p11] 32) := ⟨_, rfl⟩
          have B4 : Below w2.heap.size w2 W4 := by rw [hW4]; exact (B3.out.trans (b4.mono B3.out.size)).trans ((below_one _ _).mono (Nat.le_trans B3.out.size b4.size))
          have hbx : W4.heap[w4.heap.size]? = some (.cells #[.slice p0 p1 p2, .slice p3 p4 p5, .slice p6 p7 p8, .slice p9 p10 p11] 32 (0, 0)) := by rw [hW4]; exact heap_alloc_new w4 _
          have hres : W4.heap[w.heap.size]? = _ := (B4.block _ (lt_of_block H2.out.2.2.2)).trans H2.out.2.2.2
          have HB4 : Hid (Below w.heap.size w W4) := H2.out.2.2.1.trans (B4.mono H2.out.2.2.1.size)
          obtain ⟨c0, c1, c2, c3, cl⟩ := c4_block hbx
          obtain ⟨s0, s1, s2, s3, sl⟩ := c4_block hres
          have sf := fz_block hres
          go_upto_region 11 with fail
          rw [← hW4]
          clear hW4 hbx hres B4 b4 B3 H2
          go_wp2_with (go_region)
          all_goals refine bodyPost_ret (v := .tuple #[.pointer none, .agg #[.slice p0 p1 p2, .slice p3 p4 p5, .slice p6 p7 p8, .slice p9 p10 p11], .bool false]) (by simp [results, Tryz.results8, go_sem, s0, s1, s2, s3]) rfl (.inl ⟨_, _, _, _, rfl, HS.out, ?_⟩)
          all_goals first
            | exact set4_below HB4.out (Nat.le_refl _) _ _ _ _
            | exact below_drew (set4_below HB4.out (Nat.le_refl _) _ _ _ _) _
            | exact set4_below (below_drew HB4.out _) (Nat.le_refl _) _ _ _ _
        · subst hk4
          have HR3 : Hid (Rn w2 w3 r gp gk (newTo l (circleOf l S) 4) ∧ S.Pairwise (· < ·) ∧ (∀ x, x ∈ S ↔ x ∈ l)) := ⟨hrn, hp, hmm⟩
          clear hrn hp hmm
          go_wp2_with fail
          refine (rnew_any ua 4 uc l w3 (H2.out.2.1.below (Nat.le_refl _) B3.out)).mono ?_
          rintro e w4 ⟨x0, x1, x2, x3, cc, rfl, hsl, hcc, b4⟩
          have HS : Hid (Sl4 x0 x1 x2 x3) := hsl
          obtain ⟨⟨p0, p1, p2, rfl⟩, ⟨p3, p4, p5, rfl⟩, ⟨p6, p7, p8, rfl⟩, ⟨p9, p10, p11, rfl⟩⟩ := hsl
          obtain ⟨W4, hW4⟩ : ∃ W4, W4 = w4.alloc (.cells #[.slice p0 p1 p2, .slice p3 p4 p5, .slice p6 p7 p8, .slice p9 p10 p11] 32) := ⟨_, rfl⟩
          have B34 : Below w3.heap.size w3 W4 := by rw [hW4]; exact b4.trans ((below_one _ _).mono b4.size)
          have B4 : Below w2.heap.size w2 W4 := B3.out.trans (B34.mono B3.out.size)
          have hbx : W4.heap[w4.heap.size]? = some (.cells #[.slice p0 p1 p2, .slice p3 p4 p5, .slice p6 p7 p8, .slice p9 p10 p11] 32 (0, 0)) := by rw [hW4]; exact heap_alloc_new w4 _
          have hres : W4.heap[w.heap.size]? = some (.cells #[.slice none 0 0, .slice none 0 0, .slice none 0 0, .slice none 0 0] 32 (0, 0)) := (B4.block _ (lt_of_block H2.out.2.2.2)).trans H2.out.2.2.2
          have HB4 : Hid (Below w.heap.size w W4) := H2.out.2.2.1.trans (B4.mono H2.out.2.2.1.size)
          obtain ⟨c0, c1, c2, c3, cl⟩ := c4_block hbx
          by_cases q0 : cc = 0
          · have HM : Hid (MdI w W4 r gp gk (newTo l (circleOf l S) 4) w4.heap.size (.slice p0 p1 p2) (.slice p3 p4 p5) (.slice p6 p7 p8) (.slice p9 p10 p11)) := by
              obtain ⟨S', h1, h2, h3⟩ := hcc q0
              have eS : S' = S := rising_same S' S h1 HR3.out.2.1 (fun x => by rw [h2 x, HR3.out.2.2 x])
              subst eS
              have hs2 := H2.out.2.2.1.size
              have hrn := HR3.out.1
              have q1 := hrn.gp
              have q2 := hrn.gk
              refine ⟨⟨hrn.ring.below B34, hrn.inv, HB4.out, by omega, by omega⟩, hbx, hres, h3.below (by rw [hW4]; exact below_one _ _), HS.out, ?_⟩
              have e1 := lt_of_block H2.out.2.2.2
              have e2 := B3.out.size
              have e3 := b4.size
              omega
            subst q0
            go_upto_region 11 with fail
            rw [← hW4]
            generalize w4.heap.size = q at HM c0 c1 c2 c3 cl ⊢
            clear hW4 hbx hres B4 B34 b4 B3 H2 HB4 c0 c1 c2 c3 cl hcc HR3 HS
            have HM0 : Hid (∃ R y0 y1 y2 y3, MdI w W4 r gp gk R q y0 y1 y2 y3) := ⟨_, _, _, _, _, HM.out⟩
            clear HM
            go_wp2
            go_loopg [16] len1 (fun kx s wr => ∃ i : Nat, s = .int .i64 i ∧ i ≤ len1 ∧ i ≤ N ∧ kx = len1 - i ∧ Hid (∃ R y0 y1 y2 y3, MdI w wr r gp gk R q y0 y1 y2 y3))
            case atStart => exact ⟨0, rfl, Nat.zero_le _, Nat.zero_le _, rfl, HM0⟩
            case round =>
              obtain ⟨i, rfl, hi1, hiN, rfl, HB⟩ := hrel
              clear HM0
              obtain ⟨R, y0, y1, y2, y3, hM⟩ := HB.out
              have HM : Hid (MdI w wr r gp gk R q y0 y1 y2 y3) := hM
              obtain ⟨⟨p0, p1, p2, rfl⟩, ⟨p3, p4, p5, rfl⟩, ⟨p6, p7, p8, rfl⟩, ⟨p9, p10, p11, rfl⟩⟩ := hM.sl
              clear hM HB
              by_cases hlt : i < len1 ∧ i < N
              · obtain ⟨hlt, hltN⟩ := hlt
                have hN' : (i : Int) < (N : Int) := by omega
                have hiI : (0 : Int) ≤ (i : Int) ∧ (i : Int) < (len1 : Int) := by omega
                obtain ⟨b, o, hab, hbb, hok, z0, z1, z2, z3⟩ := AcIn.at (HT.out.below (Nat.le_refl _) HM.out.rn.bel) hlt
                subst hab
                generalize t1.getD i ac100 = t at hok z0 z1 z2 z3
                obtain ⟨kd, m, via, id⟩ := t
                have HO : Hid (Ac10.ok ⟨kd, m, via, id⟩) := hok
                clear hok
                simp only at z0 z1 z2 z3
                obtain ⟨c0, c1, c2, c3, cl⟩ := c4_block HM.out.box
                have HDO : Hid (∀ W, Below wr.heap.size wr W → Calls Tryz.prog 24 #[.pointer (some ⟨r, 0, none⟩), .agg #[.slice p0 p1 p2, .slice p3 p4 p5, .slice p6 p7 p8, .slice p9 p10 p11], .agg #[.int .i64 kd, .int .i64 m, .int .i64 via, .int .u64 id]] W fun e w' => ∃ R' v', e = .returned (.tuple #[v', .bool true]) ∧ Rn w w' r gp gk R' ∧ RfV w' R' v' ∧ Kp wr w' gp gk ∧ Kp W w' gp gk) := fun W hW => by
                  refine (does_r w r gp gk R _ kd m via id W HE.out (HM.out.rn.below hW) (HM.out.v.below hW) HO.out).mono ?_
                  rintro e w' ⟨R', v', he, h1, h2, h3, _⟩
                  exact ⟨R', v', he, h1, h2, (Kp.ofBelow hW).trans h3, h3⟩
                clear HO
                go_upto_region 16 with fail
                have hgs := HM.out.rn.ring.gs
                have hwl := HM.out.rn.bel.size
                go_cut [17] (fun p wx => ∃ (R' : Rg) (za : Option Addr) (zb : Nat) (zc : Option Addr) (zd : Nat) (ze : Option Addr) (zf : Nat) (zg : Option Addr) (zh : Nat) (q9 : Nat), p = .pointer (some ⟨q9, 0, none⟩) ∧ Hid (MdC w wr wx r gp gk R' q9 (.slice za 32 zb) (.slice zc 32 zd) (.slice ze 32 zf) (.slice zg 32 zh)))
                case first =>
                  go_region_law
                    ((go_simp; go_at_call 24; refine Calls.mono (HDO.out _ (by first | exact ⟨rfl, rfl, rfl, Nat.le_refl _, fun _ _ => rfl⟩ | exact ⟨rfl, rfl, rfl, by simp, fun k hk => Below.heap_alloc _ _ k hk⟩)) ?_; rintro e w9 ⟨R', v', rfl, h9, hv9, k9, k9'⟩
                      obtain ⟨e0, e1, e2, e3, rfl, za, zb, zc, zd, ze, zf, zg, zh, rfl, rfl, rfl, rfl⟩ := hv9.shape
                      try
                        have hz : w9.heap[wr.heap.size]? = some (.cells #[.slice none 0 0, .slice none 0 0, .slice none 0 0, .slice none 0 0] 32 (0, 0)) := (k9'.block wr.heap.size (by simp) (by omega) (by omega)).trans (heap_alloc_new _ _)
                        obtain ⟨s0, s1, s2, s3, sl⟩ := c4_block hz
                        have f0 := fz_block hz 0
                        have f1 := fz_block hz 1
                        have f2 := fz_block hz 2
                        have f3 := fz_block hz 3))
                  all_goals (try go_wp2_with fail)
                  all_goals go_meet
                  all_goals first
                    | exact ⟨R', za, zb, zc, zd, ze, zf, zg, zh, _, rfl, MdC.b h9 hv9 k9 hwl hz⟩
                    | exact ⟨R', za, zb, zc, zd, ze, zf, zg, zh, _, rfl, MdC.a h9 hv9 k9⟩
                case rest =>
                  rename World => X9
                  obtain ⟨R', za, zb, zc, zd, ze, zf, zg, zh, q9, rfl, HC⟩ := hcut
                  obtain ⟨hnew, h9, hv9, k9⟩ := HC.out
                  have hst := HM.out.step h9 hv9 k9 ⟨⟨_, _, _, rfl⟩, ⟨_, _, _, rfl⟩, ⟨_, _, _, rfl⟩, ⟨_, _, _, rfl⟩⟩
                  have HS1 : Hid (MdI w (set4 X9 q (.slice za 32 zb) (.slice zc 32 zd) (.slice ze 32 zf) (.slice zg 32 zh)) r gp gk R' q (.slice za 32 zb) (.slice zc 32 zd) (.slice ze 32 zf) (.slice zg 32 zh)) := hst.1
                  clear c0 c1 c2 c3 cl z0 z1 z2 z3 HDO
                  obtain ⟨c0, c1, c2, c3, cl⟩ := c4_block hst.2
                  obtain ⟨d0, d1, d2, d3, dl⟩ := c4_block hnew
                  have sf := fz_block hst.2
                  clear hst hnew h9 hv9 k9 HC HM
                  go_wp2
                  go_roundg (len1 - (i + 1))
                  case measure => omega
                  case rel => exact ⟨i + 1, by go_num, by omega, by omega, rfl, ⟨_, _, _, _, _, HS1.out⟩⟩
              · have hq2 : i < len1 → ¬ (i : Int) < (N : Int) := fun h1 h2 => hlt ⟨h1, by omega⟩
                clear hlt
                obtain ⟨c0, c1, c2, c3, cl⟩ := c4_block HM.out.box
                obtain ⟨s0, s1, s2, s3, sl⟩ := c4_block HM.out.res
                have sf := fz_block HM.out.res
                have HA : Hid (Rn w (set4 wr w.heap.size (.slice p0 p1 p2) (.slice p3 p4 p5) (.slice p6 p7 p8) (.slice p9 p10 p11)) r gp gk R ∧ RfV (set4 wr w.heap.size (.slice p0 p1 p2) (.slice p3 p4 p5) (.slice p6 p7 p8) (.slice p9 p10 p11)) R (.agg #[.slice p0 p1 p2, .slice p3 p4 p5, .slice p6 p7 p8, .slice p9 p10 p11])) :=
                  ⟨HM.out.rn.set4 HM.out.res ⟨⟨_, _, _, rfl⟩, ⟨_, _, _, rfl⟩, ⟨_, _, _, rfl⟩, ⟨_, _, _, rfl⟩⟩ (Nat.le_refl _) _ _ _ _, HM.out.v.off (by rw [set4_size]; exact Nat.le_refl _) (off_set4 HM.out.res ⟨_, _, _, rfl⟩ ⟨_, _, _, rfl⟩ ⟨_, _, _, rfl⟩ ⟨_, _, _, rfl⟩ _ _ _ _)⟩
                have HSL : Hid (Sl4 (.slice p0 p1 p2) (.slice p3 p4 p5) (.slice p6 p7 p8) (.slice p9 p10 p11)) := HM.out.sl
                clear HM
                by_cases q3 : i < len1
                · have q5 := hq2 q3
                  clear hq2
                  go_wp2_with (go_region)
                  all_goals refine bodyPost_ret (v := .tuple #[.pointer (some ⟨r, 0, none⟩), .agg #[.slice p0 p1 p2, .slice p3 p4 p5, .slice p6 p7 p8, .slice p9 p10 p11], .bool true]) (by simp [results, Tryz.results8, go_sem, s0, s1, s2, s3]) rfl (.inr ⟨r, gp, gk, R, _, _, _, _, rfl, HSL.out, ?_⟩)
                  all_goals first
                    | exact HA.out
                    | exact ⟨HA.out.1.below ⟨rfl, rfl, rfl, Nat.le_refl _, fun _ _ => rfl⟩, HA.out.2.below ⟨rfl, rfl, rfl, Nat.le_refl _, fun _ _ => rfl⟩⟩
                · clear hq2
                  go_wp2_with (go_region)
                  all_goals refine bodyPost_ret (v := .tuple #[.pointer (some ⟨r, 0, none⟩), .agg #[.slice p0 p1 p2, .slice p3 p4 p5, .slice p6 p7 p8, .slice p9 p10 p11], .bool true]) (by simp [results, Tryz.results8, go_sem, s0, s1, s2, s3]) rfl (.inr ⟨r, gp, gk, R, _, _, _, _, rfl, HSL.out, ?_⟩)
                  all_goals first
                    | exact HA.out
                    | exact ⟨HA.out.1.below ⟨rfl, rfl, rfl, Nat.le_refl _, fun _ _ => rfl⟩, HA.out.2.below ⟨rfl, rfl, rfl, Nat.le_refl _, fun _ _ => rfl⟩⟩
          · have q0' : (cc != 0) = true := by simpa using q0
            obtain ⟨s0, s1, s2, s3, sl⟩ := c4_block hres
            have sf := fz_block hres
            go_upto_region 11 with fail
            rw [← hW4]
            clear hW4 hbx hres B4 B34 b4 B3 H2 hcc HR3
            go_wp2_with (go_region)
            all_goals refine bodyPost_ret (v := .tuple #[.pointer none, .agg #[.slice p0 p1 p2, .slice p3 p4 p5, .slice p6 p7 p8, .slice p9 p10 p11], .bool false]) (by simp [results, Tryz.results8, go_sem, s0, s1, s2, s3]) rfl (.inl ⟨_, _, _, _, rfl, HS.out, ?_⟩)
            all_goals first
              | exact set4_below HB4.out (Nat.le_refl _) _ _ _ _
              | exact below_drew (set4_below HB4.out (Nat.le_refl _) _ _ _ _) _
              | exact set4_below (below_drew HB4.out _) (Nat.le_refl _) _ _ _ _
end Go.Proofs.YtmajlldfiiokoaaGreatDoor
