/- ChordPlays' parts: places as numbers, both News with their codes. -/
import Derived.Test.YtgiiadjocfnhlaaGreatDoorRfM
import Derived.Test.YtgiiadjocfnhlaaGreatDoorChShow
namespace Go.Proofs.YtgiiadjocfnhlaaGreatDoor
open Go.ChangeShapes Go.WideShapes Go.ChangeAt Go.RowKit Go.Deep
set_option linter.unusedVariables false

/-- The code that New has. -/
def NewC (n : Nat) (l : List Int) (c : Int) : Prop := (n ≠ 4 ∧ c = 1) ∨ (n = 4 ∧ ∃ S : List Int, S.Pairwise (· < ·) ∧ (∀ x, x ∈ S ↔ x ∈ l) ∧ ((S.length < 4 ∧ c = 8) ∨ (S.length = 4 ∧ c = 0)))
theorem NewC.uniq {n : Nat} {l : List Int} {c d : Int} (h : NewC n l c) (h' : NewC n l d) : c = d := by
  rcases h with ⟨q, e⟩ | ⟨q, S, h1, h2, h3⟩
  · rcases h' with ⟨_, e'⟩ | ⟨q', _⟩
    · rw [e, e']
    · exact absurd q' q
  · rcases h' with ⟨q', _⟩ | ⟨_, T, g1, g2, g3⟩
    · exact absurd q q'
    · have e : S = T := rising_same S T h1 g1 (fun x => by rw [h2 x, g2 x])
      subst e
      omega
theorem newTo_plR {l C : List Int} (hC : ∀ k, k < 4 → 0 ≤ C.getD k 0 ∧ C.getD k 0 < 32) : ∀ k, k ≤ 4 → PlR (newTo l C k) := by
  intro k
  induction k with
  | zero => intro _ m _; rfl
  | succ k ih =>
    intro hk m hm
    have hc := hC k (by omega)
    have hne : m ≠ C.getD k 0 := by omega
    show upd (newTo l C k).pl (C.getD k 0) _ m = none
    unfold upd
    rw [if_neg hne]; exact ih (by omega) m hm
theorem ix_lt4 {l : List Int} (hl : l.length = 4) {x : Int} (hx : x ∈ l) : ix l x < 4 := by
  have := (ix_spec hx).1; omega
theorem cnew_c (a : Option Addr) (n cap : Nat) (l : List Int) (w : World) (h : IdIn w a n l) :
    Calls Tryz.prog 8 #[.slice a n cap] w fun e w' =>
      ((∃ c : Int, c ≠ 0 ∧ NewC n l c ∧ e = .returned (.tuple #[.pointer none, .iface 40 (.int .i64 c)])) ∨
       (∃ (S : List Int) (r gp gk : Nat), NewC n l 0 ∧ S.Pairwise (· < ·) ∧ (∀ x, x ∈ S ↔ x ∈ l) ∧ e = .returned (.tuple #[.pointer (some ⟨r, 0, none⟩), .nilIface]) ∧ Rn w w' r gp gk (newTo l (circleOf l S) 4) ∧ PlR (newTo l (circleOf l S) 4))) ∧ Below w.heap.size w w' := by
  by_cases hn : n ≠ 4
  · refine (new_len a n cap w hn h.2.1).mono ?_
    rintro e w' ⟨he, hb⟩
    exact ⟨.inl ⟨1, by omega, .inl ⟨hn, rfl⟩, he⟩, hb⟩
  · obtain rfl : n = 4 := by omega
    refine (new_four a cap l w h).mono ?_
    rintro e w' ⟨h2, hb⟩
    rcases h2 with ⟨S, hp, hm, hl, he⟩ | ⟨S, r, gp, gk, hp, hm, hl, he, hr, g1, g2, g3⟩
    · exact ⟨.inl ⟨8, by omega, .inr ⟨rfl, S, hp, hm, .inl ⟨hl, rfl⟩⟩, he⟩, hb⟩
    · obtain ⟨c0, c1, c2, c3, hc⟩ := circ_of h.1 hp hm hl
      refine ⟨.inr ⟨S, r, gp, gk, .inr ⟨rfl, S, hp, hm, .inr ⟨hl, rfl⟩⟩, hp, hm, he, ⟨hr, hc.inv hp hm (getD_u64 h), hb, g2, g3⟩, newTo_plR (fun k hk => ?_) 4 (Nat.le_refl _)⟩, hb⟩
      have hkS : k < S.length := by omega
      have e : (circleOf l S).getD k 0 = (ix l S[k] : Int) := by simp [circleOf, List.getD, hkS]
      rw [e]
      have := ix_lt4 h.1 ((hm S[k]).1 (List.getElem_mem _))
      omega
theorem rnew_c (a : Option Addr) (n cap : Nat) (l : List Int) (w : World) (h : IdIn w a n l) :
    Calls Tryz.prog 9 #[.slice a n cap] w fun e w' => ∃ (x0 x1 x2 x3 : Value) (c : Int), NewC n l c ∧ e = .returned (.tuple #[.agg #[x0, x1, x2, x3], .int .i64 c]) ∧ Sl4 x0 x1 x2 x3 ∧ (c = 0 → ∃ S : List Int, S.Pairwise (· < ·) ∧ (∀ x, x ∈ S ↔ x ∈ l) ∧ RfV w' (newTo l (circleOf l S) 4) (.agg #[x0, x1, x2, x3])) ∧ Below w.heap.size w w' := by
  by_cases hn : n ≠ 4
  · refine (rnew_len a n cap w hn h.2.1).mono ?_
    rintro e w' ⟨he, hb⟩
    exact ⟨_, _, _, _, 1, .inl ⟨hn, rfl⟩, he, ⟨⟨_, _, _, rfl⟩, ⟨_, _, _, rfl⟩, ⟨_, _, _, rfl⟩, ⟨_, _, _, rfl⟩⟩, fun q => by omega, hb⟩
  · obtain rfl : n = 4 := by omega
    refine (rnew_four a cap l w h).mono ?_
    rintro e w' ⟨h2, hb⟩
    rcases h2 with ⟨S, hp, hm, hl, he⟩ | ⟨S, v', hp, hm, hl, he, hv⟩
    · exact ⟨_, _, _, _, 8, .inr ⟨rfl, S, hp, hm, .inl ⟨hl, rfl⟩⟩, he, ⟨⟨_, _, _, rfl⟩, ⟨_, _, _, rfl⟩, ⟨_, _, _, rfl⟩, ⟨_, _, _, rfl⟩⟩, fun q => by omega, hb⟩
    · obtain ⟨x0, x1, x2, x3, rfl, ua, uc, la, lc, ia, ic, pa, pc, rfl, rfl, rfl, rfl⟩ := hv.shape
      exact ⟨_, _, _, _, 0, .inr ⟨rfl, S, hp, hm, .inr ⟨hl, rfl⟩⟩, he, ⟨⟨_, _, _, rfl⟩, ⟨_, _, _, rfl⟩, ⟨_, _, _, rfl⟩, ⟨_, _, _, rfl⟩⟩, fun _ => ⟨S, hp, hm, hv⟩, hb⟩

set_option maxRecDepth 100000 in
set_option maxHeartbeats 2000000 in
theorem nums_r (a : Option Addr) (n c : Nat) (l : List Int) (w : World) (h : IdIn w a n l) (hn : n ≤ 6) :
    Calls Tryz.prog 10 #[.slice a n c, .int .i64 6] w fun e w' => ∃ ua uc, e = .returned (.slice ua n uc) ∧ IdIn w' ua n l ∧ Below w.heap.size w w' := by
  obtain ⟨i0, hif, hz0, hz1, hz2⟩ := info_parts' Tryz.infoU64
  have HL : Hid (IdIn w a n l) := h
  clear h
  go_enter Tryz.func10, Tryz.ntmps10
  go_wp2
  go_loopg [5, 6] n (fun kx v s wr => ∃ k : Nat, s = .int .i64 k ∧ k ≤ n ∧ kx = n - k ∧ Hid (Made w wr v (l.take k)))
  case atStart => exact ⟨0, rfl, Nat.zero_le _, by omega, Made.empty w⟩
  case round =>
    obtain ⟨k, rfl, hk, rfl, HG⟩ := hrel
    have HLk : Hid ((l.take k).length = k) := by show (l.take k).length = k; have := HL.out.1; simp; omega
    obtain ⟨ua, uc, hu⟩ := HG.out.shape
    rw [HLk.out] at hu
    have BW : Hid (Below w.heap.size w wr) := HG.out.below
    by_cases hlt : k < n
    · have hkI : (0 : Int) ≤ (k : Int) ∧ (k : Int) < (n : Int) := by omega
      have hk6 : (k : Int) < 6 := by omega
      obtain ⟨b, o, hb, hbb, _, hc⟩ := (HL.out.below (Nat.le_refl _) BW.out).one (v := Value.int .u64) (fun _ => rfl) (i := k) hlt
      have HTk : Hid (l.take (k + 1) = l.take k ++ [l.getD k 0]) := by
        show _ = _
        have hkl : k < l.length := by have := HL.out.1; omega
        rw [List.take_add_one, List.getD_eq_getElem?_getD, List.getElem?_eq_getElem hkl]; rfl
      obtain ⟨y, hy⟩ : ∃ y, y = l.getD k 0 := ⟨_, rfl⟩
      rw [← hy] at hc HTk
      clear hy
      subst hb
      subst hu
      have HA : Hid ((wr.alloc (.cells #[.int .u64 y] 44)).ownsRow w.heap.size 44 1 (.slice ua k uc) k ((l.take k).map (Value.int .u64))) := by
        have := HG.out.row.alloc (.cells #[.int .u64 y] 44)
        rw [HLk.out] at this
        exact this
      have HSz : Hid (w.heap.size ≤ wr.heap.size) := HG.out.size
      go_wp2_with (at_builtin; refine wpList_own_append _ rfl _ _ 30 30 rfl w.heap.size 44 i0 (.int .u64 0) 8 Tryz.underlying30 hif hz0 hz1 hz2 rfl _ _ _ rfl HA.out _ 1 [.int .u64 y] rfl (src_u64 wr y _) ?c3 ?c4 ?c5 ?_)
      case c3 => unfold maxLen; omega
      case c4 => omega
      case c5 => have := HSz.out; simp; omega
      intro v' w3 ha
      have G' : Hid (Made w w3 v' (l.take (k + 1))) := by rw [HTk.out]; rw [← List.map_take] at ha; exact HG.out.app (by rw [HLk.out]) ha
      clear ha HA
      go_wp2
      go_roundg (n - (k + 1))
      case measure => omega
      case rel => exact ⟨k + 1, by go_num, by omega, rfl, G'⟩
    · obtain rfl : k = n := by omega
      have hkn : ¬ (k : Int) < (k : Int) := by omega
      have HG2 : Hid (Made w wr (.slice ua k uc) l) := by
        subst hu
        have e : l.take k = l := List.take_of_length_le (by have := HL.out.1; omega)
        have := HG.out
        rw [e] at this
        exact this
      subst hu
      go_wp2
      go_ret
      have hfin : IdIn wr ua k l := made_ids HG2.out HL.out.1.symm (fun x hx => by
        by_cases k0 : 0 < k
        · exact inrow_ok HL.out k0 x hx
        · have : l = [] := List.eq_nil_of_length_eq_zero (by have := HL.out.1; omega)
          rw [this] at hx; cases hx) (by omega)
      first
        | exact ⟨ua, uc, rfl, hfin, BW.out⟩
        | exact ⟨ua, ⟨uc, rfl⟩, hfin, BW.out⟩
/-- A ring, and the document's in its box. -/
structure MdJ (w wr : World) (r gp gk : Nat) (R : Rg) (q : Nat) (x0 x1 x2 x3 : Value) : Prop where
  rn : Rn w wr r gp gk R
  box : wr.heap[q]? = some (.cells #[x0, x1, x2, x3] 35 (0, 0))
  v : RfV wr R (.agg #[x0, x1, x2, x3])
  sl : Sl4 x0 x1 x2 x3
  lt : w.heap.size ≤ q
  pl : PlR R
theorem MdJ.step {w wr X9 : World} {r gp gk q : Nat} {R R' : Rg} {x0 x1 x2 x3 y0 y1 y2 y3 : Value} (h : MdJ w wr r gp gk R q x0 x1 x2 x3) (hr : Rn w X9 r gp gk R') (hv : RfV X9 R' (.agg #[y0, y1, y2, y3])) (k : Kp wr X9 gp gk) (hy : Sl4 y0 y1 y2 y3) (hp : PlR R') :
    MdJ w (set4 X9 q y0 y1 y2 y3) r gp gk R' q y0 y1 y2 y3 ∧ X9.heap[q]? = some (.cells #[x0, x1, x2, x3] 35 (0, 0)) := by
  have n1 := h.rn.ring.cells_ne h.box
  have b1 : X9.heap[q]? = some (.cells #[x0, x1, x2, x3] 35 (0, 0)) := (k.block q (lt_of_block h.box) n1.1 n1.2.1).trans h.box
  have hoff := off_set4 b1 h.sl.1 h.sl.2.1 h.sl.2.2.1 h.sl.2.2.2 y0 y1 y2 y3
  exact ⟨⟨hr.set4 b1 h.sl h.lt _ _ _ _, set4_box b1 _ _ _ _, hv.off (by rw [set4_size]; exact Nat.le_refl _) hoff, hy, h.lt, hp⟩, b1⟩
theorem MdJ.below {w wr w' : World} {r gp gk q : Nat} {R : Rg} {x0 x1 x2 x3 : Value} (h : MdJ w wr r gp gk R q x0 x1 x2 x3) (hb : Below wr.heap.size wr w') : MdJ w w' r gp gk R q x0 x1 x2 x3 :=
  ⟨h.rn.below hb, (hb.block _ (lt_of_block h.box)).trans h.box, h.v.below hb, h.sl, h.lt, h.pl⟩
end Go.Proofs.YtgiiadjocfnhlaaGreatDoor
