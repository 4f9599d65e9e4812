/- ChordPlays' parts: places as numbers, both News with their codes. -/
import Derived.Test.YtgiiadjocfnhlaaGreatDoorRfM
import Derived.Test.YtgiiadjocfnhlaaGreatDoorChShow
import Derived.Test.YtgiiadjocfnhlaaGreatDoorIdOwn
import Derived.Test.YtgiiadjocfnhlaaGreatDoorRfD
import Derived.Test.YtgiiadjocfnhlaaGreatDoorJoinPeSame
import Derived.Deep.RegionHeld3
import Derived.Deep.CutBlock
import Derived.Deep.DeepCutAuto
set_option linter.unnecessarySimpa false
namespace Go.Proofs.YtgiiadjocfnhlaaGreatDoor
open Go.ChangeShapes Go.WideShapes Go.ChangeAt Go.RowKit Go.Deep
set_option linter.unusedVariables false

/-- The code that New has. -/
def NewC (n : Nat) (l : List Int) (c : Int) : Prop := (n ≠ 4 ∧ c = 1) ∨ (n = 4 ∧ ∃ S : List Int, S.Pairwise (· < ·) ∧ (∀ x, x ∈ S ↔ x ∈ l) ∧ ((S.length < 4 ∧ c = 8) ∨ (S.length = 4 ∧ c = 0)))
theorem NewC.uniq {n : Nat} {l : List Int} {c d : Int} (h : NewC n l c) (h' : NewC n l d) : c = d := by
  rcases h with ⟨q, e⟩ | ⟨q, S, h1, h2, h3⟩
  · rcases h' with ⟨_, e'⟩ | ⟨q', _⟩
    · rw [e, e']
    · exact absurd q' q
  · rcases h' with ⟨q', _⟩ | ⟨_, T, g1, g2, g3⟩
    · exact absurd q q'
    · have e : S = T := rising_same S T h1 g1 (fun x => by rw [h2 x, g2 x])
      subst e
      omega
theorem newTo_plR {l C : List Int} (hC : ∀ k, k < 4 → 0 ≤ C.getD k 0 ∧ C.getD k 0 < 32) : ∀ k, k ≤ 4 → PlR (newTo l C k) := by
  intro k
  induction k with
  | zero => intro _ m _; rfl
  | succ k ih =>
    intro hk m hm
    have hc := hC k (by omega)
    have hne : m ≠ C.getD k 0 := by omega
    show upd (newTo l C k).pl (C.getD k 0) _ m = none
    unfold upd
    rw [if_neg hne]; exact ih (by omega) m hm
theorem ix_lt4 {l : List Int} (hl : l.length = 4) {x : Int} (hx : x ∈ l) : ix l x < 4 := by
  have := (ix_spec hx).1; omega
theorem cnew_c (a : Option Addr) (n cap : Nat) (l : List Int) (w : World) (h : IdIn w a n l) :
    Calls Tryz.prog 8 #[.slice a n cap] w fun e w' =>
      ((∃ c : Int, c ≠ 0 ∧ NewC n l c ∧ e = .returned (.tuple #[.pointer none, .iface 40 (.int .i64 c)])) ∨
       (∃ (S : List Int) (r gp gk : Nat), NewC n l 0 ∧ S.Pairwise (· < ·) ∧ (∀ x, x ∈ S ↔ x ∈ l) ∧ e = .returned (.tuple #[.pointer (some ⟨r, 0, none⟩), .nilIface]) ∧ Rn w w' r gp gk (newTo l (circleOf l S) 4) ∧ PlR (newTo l (circleOf l S) 4))) ∧ Below w.heap.size w w' := by
  by_cases hn : n ≠ 4
  · refine (new_len a n cap w hn h.2.1).mono ?_
    rintro e w' ⟨he, hb⟩
    exact ⟨.inl ⟨1, by omega, .inl ⟨hn, rfl⟩, he⟩, hb⟩
  · obtain rfl : n = 4 := by omega
    refine (new_four a cap l w h).mono ?_
    rintro e w' ⟨h2, hb⟩
    rcases h2 with ⟨S, hp, hm, hl, he⟩ | ⟨S, r, gp, gk, hp, hm, hl, he, hr, g1, g2, g3⟩
    · exact ⟨.inl ⟨8, by omega, .inr ⟨rfl, S, hp, hm, .inl ⟨hl, rfl⟩⟩, he⟩, hb⟩
    · obtain ⟨c0, c1, c2, c3, hc⟩ := circ_of h.1 hp hm hl
      refine ⟨.inr ⟨S, r, gp, gk, .inr ⟨rfl, S, hp, hm, .inr ⟨hl, rfl⟩⟩, hp, hm, he, ⟨hr, hc.inv hp hm (getD_u64 h), hb, g2, g3⟩, newTo_plR (fun k hk => ?_) 4 (Nat.le_refl _)⟩, hb⟩
      have hkS : k < S.length := by omega
      have e : (circleOf l S).getD k 0 = (ix l S[k] : Int) := by simp [circleOf, List.getD, hkS]
      rw [e]
      have := ix_lt4 h.1 ((hm S[k]).1 (List.getElem_mem _))
      omega
theorem rnew_c (a : Option Addr) (n cap : Nat) (l : List Int) (w : World) (h : IdIn w a n l) :
    Calls Tryz.prog 9 #[.slice a n cap] w fun e w' => ∃ (x0 x1 x2 x3 : Value) (c : Int), NewC n l c ∧ e = .returned (.tuple #[.agg #[x0, x1, x2, x3], .int .i64 c]) ∧ Sl4 x0 x1 x2 x3 ∧ (c = 0 → ∃ S : List Int, S.Pairwise (· < ·) ∧ (∀ x, x ∈ S ↔ x ∈ l) ∧ RfV w' (newTo l (circleOf l S) 4) (.agg #[x0, x1, x2, x3])) ∧ Below w.heap.size w w' := by
  by_cases hn : n ≠ 4
  · refine (rnew_len a n cap w hn h.2.1).mono ?_
    rintro e w' ⟨he, hb⟩
    exact ⟨_, _, _, _, 1, .inl ⟨hn, rfl⟩, he, ⟨⟨_, _, _, rfl⟩, ⟨_, _, _, rfl⟩, ⟨_, _, _, rfl⟩, ⟨_, _, _, rfl⟩⟩, fun q => by omega, hb⟩
  · obtain rfl : n = 4 := by omega
    refine (rnew_four a cap l w h).mono ?_
    rintro e w' ⟨h2, hb⟩
    rcases h2 with ⟨S, hp, hm, hl, he⟩ | ⟨S, v', hp, hm, hl, he, hv⟩
    · exact ⟨_, _, _, _, 8, .inr ⟨rfl, S, hp, hm, .inl ⟨hl, rfl⟩⟩, he, ⟨⟨_, _, _, rfl⟩, ⟨_, _, _, rfl⟩, ⟨_, _, _, rfl⟩, ⟨_, _, _, rfl⟩⟩, fun q => by omega, hb⟩
    · obtain ⟨x0, x1, x2, x3, rfl, ua, uc, la, lc, ia, ic, pa, pc, rfl, rfl, rfl, rfl⟩ := hv.shape
      exact ⟨_, _, _, _, 0, .inr ⟨rfl, S, hp, hm, .inr ⟨hl, rfl⟩⟩, he, ⟨⟨_, _, _, rfl⟩, ⟨_, _, _, rfl⟩, ⟨_, _, _, rfl⟩, ⟨_, _, _, rfl⟩⟩, fun _ => ⟨S, hp, hm, hv⟩, hb⟩

set_option maxRecDepth 100000 in
set_option maxHeartbeats 2000000 in
theorem nums_r (a : Option Addr) (n c : Nat) (l : List Int) (w : World) (h : IdIn w a n l) (hn : n ≤ 6) :
    Calls Tryz.prog 10 #[.slice a n c, .int .i64 6] w fun e w' => ∃ ua uc, e = .returned (.slice ua n uc) ∧ IdIn w' ua n l ∧ Below w.heap.size w w' := by
  obtain ⟨i0, hif, hz0, hz1, hz2⟩ := info_parts' Tryz.infoU64
  have HL : Hid (IdIn w a n l) := h
  clear h
  go_enter Tryz.func10, Tryz.ntmps10
  go_wp2
  go_loopg [5, 6] n (fun kx v s wr => ∃ k : Nat, s = .int .i64 k ∧ k ≤ n ∧ kx = n - k ∧ Hid (Made w wr v (l.take k)))
  case atStart => exact ⟨0, rfl, Nat.zero_le _, by omega, Made.empty w⟩
  case round =>
    obtain ⟨k, rfl, hk, rfl, HG⟩ := hrel
    have HLk : Hid ((l.take k).length = k) := by show (l.take k).length = k; have := HL.out.1; simp; omega
    obtain ⟨ua, uc, hu⟩ := HG.out.shape
    rw [HLk.out] at hu
    have BW : Hid (Below w.heap.size w wr) := HG.out.below
    by_cases hlt : k < n
    · have hkI : (0 : Int) ≤ (k : Int) ∧ (k : Int) < (n : Int) := by omega
      have hk6 : (k : Int) < 6 := by omega
      obtain ⟨b, o, hb, hbb, _, hc⟩ := (HL.out.below (Nat.le_refl _) BW.out).one (v := Value.int .u64) (fun _ => rfl) (i := k) hlt
      have HTk : Hid (l.take (k + 1) = l.take k ++ [l.getD k 0]) := by
        show _ = _
        have hkl : k < l.length := by have := HL.out.1; omega
        rw [List.take_add_one, List.getD_eq_getElem?_getD, List.getElem?_eq_getElem hkl]; rfl
      obtain ⟨y, hy⟩ : ∃ y, y = l.getD k 0 := ⟨_, rfl⟩
      rw [← hy] at hc HTk
      clear hy
      subst hb
      subst hu
      have HA : Hid ((wr.alloc (.cells #[.int .u64 y] 44)).ownsRow w.heap.size 44 1 (.slice ua k uc) k ((l.take k).map (Value.int .u64))) := by
        have := HG.out.row.alloc (.cells #[.int .u64 y] 44)
        rw [HLk.out] at this
        exact this
      have HSz : Hid (w.heap.size ≤ wr.heap.size) := HG.out.size
      go_wp2_with (at_builtin; refine wpList_own_append _ rfl _ _ 30 30 rfl w.heap.size 44 i0 (.int .u64 0) 8 Tryz.underlying30 hif hz0 hz1 hz2 rfl _ _ _ rfl HA.out _ 1 [.int .u64 y] rfl (src_u64 wr y _) ?c3 ?c4 ?c5 ?_)
      case c3 => unfold maxLen; omega
      case c4 => omega
      case c5 => have := HSz.out; simp; omega
      intro v' w3 ha
      have G' : Hid (Made w w3 v' (l.take (k + 1))) := by rw [HTk.out]; rw [← List.map_take] at ha; exact HG.out.app (by rw [HLk.out]) ha
      clear ha HA
      go_wp2
      go_roundg (n - (k + 1))
      case measure => omega
      case rel => exact ⟨k + 1, by go_num, by omega, rfl, G'⟩
    · obtain rfl : k = n := by omega
      have hkn : ¬ (k : Int) < (k : Int) := by omega
      have HG2 : Hid (Made w wr (.slice ua k uc) l) := by
        subst hu
        have e : l.take k = l := List.take_of_length_le (by have := HL.out.1; omega)
        have := HG.out
        rw [e] at this
        exact this
      subst hu
      go_wp2
      go_ret
      have hfin : IdIn wr ua k l := made_ids HG2.out HL.out.1.symm (fun x hx => by
        by_cases k0 : 0 < k
        · exact inrow_ok HL.out k0 x hx
        · have : l = [] := List.eq_nil_of_length_eq_zero (by have := HL.out.1; omega)
          rw [this] at hx; cases hx) (by omega)
      first
        | exact ⟨ua, uc, rfl, hfin, BW.out⟩
        | exact ⟨ua, ⟨uc, rfl⟩, hfin, BW.out⟩
/-- A ring, and the document's in its box. -/
structure MdJ (w wr : World) (r gp gk : Nat) (R : Rg) (q : Nat) (x0 x1 x2 x3 : Value) : Prop where
  rn : Rn w wr r gp gk R
  box : wr.heap[q]? = some (.cells #[x0, x1, x2, x3] 35 (0, 0))
  v : RfV wr R (.agg #[x0, x1, x2, x3])
  sl : Sl4 x0 x1 x2 x3
  lt : w.heap.size ≤ q
  pl : PlR R
theorem MdJ.step {w wr X9 : World} {r gp gk q : Nat} {R R' : Rg} {x0 x1 x2 x3 y0 y1 y2 y3 : Value} (h : MdJ w wr r gp gk R q x0 x1 x2 x3) (hr : Rn w X9 r gp gk R') (hv : RfV X9 R' (.agg #[y0, y1, y2, y3])) (k : Kp wr X9 gp gk) (hy : Sl4 y0 y1 y2 y3) (hp : PlR R') :
    MdJ w (set4 X9 q y0 y1 y2 y3) r gp gk R' q y0 y1 y2 y3 ∧ X9.heap[q]? = some (.cells #[x0, x1, x2, x3] 35 (0, 0)) := by
  have n1 := h.rn.ring.cells_ne h.box
  have b1 : X9.heap[q]? = some (.cells #[x0, x1, x2, x3] 35 (0, 0)) := (k.block q (lt_of_block h.box) n1.1 n1.2.1).trans h.box
  have hoff := off_set4 b1 h.sl.1 h.sl.2.1 h.sl.2.2.1 h.sl.2.2.2 y0 y1 y2 y3
  exact ⟨⟨hr.set4 b1 h.sl h.lt _ _ _ _, set4_box b1 _ _ _ _, hv.off (by rw [set4_size]; exact Nat.le_refl _) hoff, hy, h.lt, hp⟩, b1⟩
theorem MdJ.below {w wr w' : World} {r gp gk q : Nat} {R : Rg} {x0 x1 x2 x3 : Value} (h : MdJ w wr r gp gk R q x0 x1 x2 x3) (hb : Below wr.heap.size wr w') : MdJ w w' r gp gk R q x0 x1 x2 x3 :=
  ⟨h.rn.below hb, (hb.block _ (lt_of_block h.box)).trans h.box, h.v.below hb, h.sl, h.lt, h.pl⟩
end Go.Proofs.YtgiiadjocfnhlaaGreatDoor

/- Who lies least far on from a place: the owner. No program in sight. -/
namespace Go.Proofs.YtgiiadjocfnhlaaGreatDoor
set_option linter.unusedVariables false

/-- The first one of a list that lies least far on; b: who it is so far. -/
def Rg.least (R : Rg) (x : Int) : Int → List Int → Int
  | b, [] => b
  | b, n :: l => R.least x (if b < 0 ∨ dist x (R.idOf n) < dist x (R.idOf b) then n else b) l
theorem least_drop (R : Rg) (x b : Int) (l : List Int) (k : Nat) (hk : k < l.length) : R.least x b (l.drop k) = R.least x (if b < 0 ∨ dist x (R.idOf (l.getD k 0)) < dist x (R.idOf b) then l.getD k 0 else b) (l.drop (k + 1)) := by
  rw [List.drop_eq_getElem_cons hk]
  have e : l.getD k 0 = l[k] := by simp [List.getD, hk]
  rw [e]; rfl
theorem least_spec (R : Rg) (x : Int) : ∀ (l : List Int) (b : Int), (∀ y ∈ l, 0 ≤ y) → (0 ≤ b ∨ l ≠ []) → (R.least x b l ∈ l ∨ (0 ≤ b ∧ R.least x b l = b)) ∧ (∀ y ∈ l, dist x (R.idOf (R.least x b l)) ≤ dist x (R.idOf y)) ∧ (0 ≤ b → dist x (R.idOf (R.least x b l)) ≤ dist x (R.idOf b)) := by
  intro l
  induction l with
  | nil =>
    intro b _ hb
    have h0 : 0 ≤ b := hb.resolve_right (fun q => q rfl)
    exact ⟨.inr ⟨h0, rfl⟩, fun y hy => by simp at hy, fun _ => Int.le_refl _⟩
  | cons n l ih =>
    intro b hl hb
    have hn : 0 ≤ n := hl n (by simp)
    unfold Rg.least
    by_cases c : b < 0 ∨ dist x (R.idOf n) < dist x (R.idOf b)
    · rw [if_pos c]
      obtain ⟨i1, i2, i3⟩ := ih n (fun y hy => hl y (by simp [hy])) (.inl hn)
      refine ⟨?_, fun y hy => ?_, fun h0 => ?_⟩
      · rcases i1 with q | ⟨_, q⟩
        · exact .inl (by simp [q])
        · exact .inl (by rw [q]; simp)
      · rcases List.mem_cons.1 hy with q | q
        · rw [q]; exact i3 hn
        · exact i2 y q
      · have := i3 hn
        rcases c with q | q <;> omega
    · rw [if_neg c]
      obtain ⟨i1, i2, i3⟩ := ih b (fun y hy => hl y (by simp [hy])) (.inl (by omega))
      refine ⟨?_, fun y hy => ?_, fun h0 => i3 h0⟩
      · rcases i1 with q | q
        · exact .inl (by simp [q])
        · exact .inr q
      · rcases List.mem_cons.1 hy with q | q
        · rw [q]; have := i3 (by omega); omega
        · exact i2 y q
/-- The owner lies least far on. -/
theorem owner_least {P : List Int} (hp : P.Pairwise (· < ·)) (hu : ∀ k : Nat, Plc (P.getD k 0)) {x : Int} (hx : Plc x) {k : Nat} (hk : ownerN P x = k) (hkl : k < P.length) {j : Nat} (hj : j < P.length) : dist x (P.getD k 0) ≤ dist x (P.getD j 0) := by
  have u1 := hu k
  have u2 := hu j
  rcases owner_spec P x (by omega) with ⟨h1, h3⟩ | ⟨m, h1, h3, h4, h5⟩
  · have e : k = 0 := by rw [h1] at hk; omega
    subst e
    have a1 := h3 0 hkl
    have a2 := h3 j hj
    have : P.getD 0 0 ≤ P.getD j 0 := by
      by_cases q : j = 0
      · rw [q]; exact Int.le_refl _
      · exact Int.le_of_lt (rising_getD hp 0 j (by omega) hj)
    unfold Plc at *; unfold dist; omega
  · have e : k = m := by rw [h3] at hk; omega
    subst e
    by_cases q : j < k
    · have := h4 j q
      unfold Plc at *; unfold dist; omega
    · have : P.getD k 0 ≤ P.getD j 0 := by
        by_cases q2 : j = k
        · rw [q2]; exact Int.le_refl _
        · exact Int.le_of_lt (rising_getD hp k j (by omega) hj)
      unfold Plc at *; unfold dist; omega
theorem cir_places {R : Rg} {C : List Int} (hi : Inv R) (c : Cir R C) : (C.map R.idOf).Pairwise (· < ·) ∧ (∀ j, j < C.length → (C.map R.idOf).getD j 0 = R.idOf (C.getD j 0)) ∧ ∀ j : Nat, Plc ((C.map R.idOf).getD j 0) := by
  have hg : ∀ j, j < C.length → (C.map R.idOf).getD j 0 = R.idOf (C.getD j 0) := fun j hj => by simp [List.getD, hj]
  refine ⟨List.pairwise_map.2 c.rise, hg, fun j => ?_⟩
  by_cases q : j < C.length
  · rw [hg j q]; exact hi.u _
  · have e : (C.map R.idOf).getD j 0 = 0 := by simp [List.getD, List.getElem?_eq_none (by simp; omega : (C.map R.idOf).length ≤ j)]
    rw [e]; unfold Plc; omega
/-- It is the circle's owner. -/
theorem least_owner {R : Rg} {C : List Int} (hi : Inv R) (c : Cir R C) {x : Int} (hx : Plc x) {k : Nat} (hk : ownerN (C.map R.idOf) x = k) (hkl : k < C.length) : R.least x (-1) R.live = C.getD k 0 := by
  obtain ⟨hp, hg, hu⟩ := cir_places hi c
  have h4 := live_four hi
  have hne : R.live ≠ [] := fun e => by rw [e] at h4; simp at h4
  obtain ⟨s1, s2, _⟩ := least_spec R x R.live (-1) (fun y hy => by have := hi.rng y ((mem_live R y).1 hy).2.2; omega) (.inr hne)
  have hm : R.least x (-1) R.live ∈ R.live := s1.resolve_right (fun q => by omega)
  have hlv := ((mem_live R _).1 hm).2.2
  obtain ⟨j, hj, e⟩ := c.at_ hlv
  have a1 := s2 (C.getD k 0) (hi.in_live (c.lv hkl))
  have a2 := owner_least hp hu hx hk (by simpa using hkl) (j := j) (by simpa using hj)
  rw [hg k hkl, hg j hj, e] at a2
  exact hi.inj _ _ hlv (c.lv hkl) (dist_inj (a := x) (hi.u _) (hi.u _) (by omega))
end Go.Proofs.YtgiiadjocfnhlaaGreatDoor

/- wigwagref11.Owner, wigwagref01.Start, wigwagref11.Finger. -/
namespace Go.Proofs.YtgiiadjocfnhlaaGreatDoor
open Go.ChangeShapes Go.WideShapes Go.ChangeAt Go.RowKit Go.Deep
set_option linter.unusedVariables false

/-- A place of the document's ring lies in its cell. -/
theorem RfV.place {w : World} {R : Rg} {ua la ia pa : Option Addr} {uc lc ic pc : Nat} (h : RfV w R (.agg #[.slice ua 32 uc, .slice la 32 lc, .slice ia 32 ic, .slice pa 32 pc])) :
    ∃ b o, ia = some ⟨b, o, none⟩ ∧ b < w.heap.size ∧ ∀ k, k < 32 → w.cell? ⟨b, o + k, none⟩ = some (.int .u64 (R.idOf k)) := by
  obtain ⟨ua', uc', la', lc', ia', ic', pa', pc', P, e, h1, h2, h3, h4, h5⟩ := h.ex
  simp at e
  obtain ⟨⟨rfl, rfl⟩, ⟨rfl, rfl⟩, ⟨rfl, rfl⟩, rfl, rfl⟩ := e
  obtain ⟨b, o, ha, hlt, _, _⟩ := h3.one (v := Value.int .u64) (fun _ => rfl) (i := 0) (by omega)
  refine ⟨b, o, ha, hlt, fun k hk => ?_⟩
  obtain ⟨b', o', ha', _, _, hc⟩ := h3.one (v := Value.int .u64) (fun _ => rfl) (i := k) hk
  rw [ha] at ha'
  cases ha'
  rw [idL_getD R hk] at hc
  exact hc

set_option maxRecDepth 100000 in
set_option maxHeartbeats 4000000 in
theorem rowner_r (R : Rg) (v : Value) (x : Int) (w : World) (h : RfV w R v) (hi : Inv R) (hx : Plc x) :
    Calls Tryz.prog 21 #[v, .int .u64 x] w fun e w' => e = .returned (.int .i64 (R.least x (-1) R.live)) ∧ Below w.heap.size w w' := by
  obtain ⟨x0, x1, x2, x3, rfl, ua, uc, la, lc, ia, ic, pa, pc, rfl, rfl, rfl, rfl⟩ := h.shape
  obtain ⟨ib, io, rfl, hil, hids⟩ := h.place
  obtain ⟨W1, hW1⟩ : ∃ W1, W1 = w.alloc (.cells #[.slice ua 32 uc, .slice la 32 lc, .slice (some ⟨ib, io, none⟩) 32 ic, .slice pa 32 pc] 35) := ⟨_, rfl⟩
  have b1 : Below w.heap.size w W1 := by rw [hW1]; exact below_one _ _
  have e0 : W1.heap[w.heap.size]? = some (.cells #[.slice ua 32 uc, .slice la 32 lc, .slice (some ⟨ib, io, none⟩) 32 ic, .slice pa 32 pc] 35 (0, 0)) := by rw [hW1]; exact heap_alloc_new w _
  have HBX : Hid (W1.heap[w.heap.size]? = some (.cells #[.slice ua 32 uc, .slice la 32 lc, .slice (some ⟨ib, io, none⟩) 32 ic, .slice pa 32 pc] 35 (0, 0)) ∧ Below w.heap.size w W1) := ⟨e0, b1⟩
  have HID : Hid (∀ W, Below w.heap.size w W → ∀ k, k < 32 → W.cell? ⟨ib, io + k, none⟩ = some (.int .u64 (R.idOf k))) := fun W hW k hk => cell_grown (hids k hk) hW
  have HV : Hid (RfV W1 R (.agg #[.slice ua 32 uc, .slice la 32 lc, .slice (some ⟨ib, io, none⟩) 32 ic, .slice pa 32 pc])) := h.below b1
  have HI : Hid (Inv R ∧ Plc x) := ⟨hi, hx⟩
  have hll : R.live.length ≤ 32 := liveTo_len R 32
  obtain ⟨n, hn⟩ : ∃ n, n = R.live.length := ⟨_, rfl⟩
  rw [← hn] at hll
  have HN : Hid (n = R.live.length) := hn
  obtain ⟨y0, y1, y2, y3, yl⟩ := c4_block e0
  clear h hi hx hids b1 e0 hn hil
  go_enter Tryz.func21, Tryz.ntmps21
  go_upto_region 1 with fail
  rw [← hW1]
  clear hW1
  go_wp2_with fail
  refine (rlive_r R _ _ HV.out).mono ?_
  rintro e w2 ⟨aL, cL, rfl, hL, _, b2⟩
  rw [← HN.out] at hL ⊢
  have H2 : Hid (Below W1.heap.size W1 w2 ∧ InIn w2 aL n R.live) := ⟨b2, hL⟩
  clear b2 hL y0 y1 y2 y3 yl
  go_wp2
  go_loopg [5, 11] n (fun kx b s wr => ∃ (k : Nat) (bb : Int), s = .int .i64 k ∧ b = .int .i64 bb ∧ k ≤ n ∧ kx = n - k ∧ Hid (Below w2.heap.size w2 wr ∧ R.least x bb (R.live.drop k) = R.least x (-1) R.live ∧ (bb < 0 ∨ ∃ m : Nat, bb = m ∧ m < 32)))
  case atStart => exact ⟨0, -1, rfl, rfl, Nat.zero_le _, rfl, ⟨Below.refl _ _, rfl, .inl (by omega)⟩⟩
  case round =>
    obtain ⟨k, bb, rfl, rfl, hk, rfl, HB⟩ := hrel
    by_cases hlt : k < n
    · have hkI : (0 : Int) ≤ (k : Int) ∧ (k : Int) < (n : Int) := by omega
      obtain ⟨mb, mo, hmb, hml, _, hmc⟩ := (H2.out.2.below (Nat.le_refl _) HB.out.1).one (v := Value.int .i64) (fun _ => rfl) (i := k) hlt
      subst hmb
      have hkl : k < R.live.length := by have := HN.out; omega
      have hmem : R.live.getD k 0 ∈ R.live := by rw [List.getD_eq_getElem?_getD, List.getElem?_eq_getElem hkl]; simp
      have hrg := (mem_live R _).1 hmem
      have hE := least_drop R x bb R.live k hkl
      obtain ⟨y, hy⟩ : ∃ y : Nat, R.live.getD k 0 = y := ⟨(R.live.getD k 0).toNat, by omega⟩
      rw [hy] at hmc hE hrg
      have hy32 : y < 32 := by omega
      have HE : Hid (R.least x bb (R.live.drop k) = R.least x (if bb < 0 ∨ dist x (R.idOf y) < dist x (R.idOf bb) then (y : Int) else bb) (R.live.drop (k + 1))) := hE
      clear hmem hrg hE hy hkl
      have B3 : Hid (Below w.heap.size w wr) := by
        have q := HBX.out.2.trans (H2.out.1.mono HBX.out.2.size)
        exact q.trans (HB.out.1.mono q.size)
      have hbx : wr.heap[w.heap.size]? = some (.cells #[.slice ua 32 uc, .slice la 32 lc, .slice (some ⟨ib, io, none⟩) 32 ic, .slice pa 32 pc] 35 (0, 0)) := by
        have q := H2.out.1.trans (HB.out.1.mono H2.out.1.size)
        exact (q.block _ (lt_of_block HBX.out.1)).trans HBX.out.1
      obtain ⟨y0, y1, y2, y3, yl⟩ := c4_block hbx
      have u1 := HID.out wr B3.out y hy32
      have ul := cell_block u1
      by_cases hbn : bb < 0
      · have dbn : decide (bb < 0) = true := decide_eq_true hbn
        have HE2 : Hid (R.least x (y : Int) (R.live.drop (k + 1)) = R.least x (-1) R.live) := by
          show _ = _
          rw [← HB.out.2.1, HE.out, if_pos (.inl hbn)]
        clear hbn
        go_upto_region 5 with fail
        obtain ⟨ι, F, _, hF0, hFb, hFc⟩ := grown_fam wr
        have HF : Hid ((∃ i, { wr with drawn := wr.drawn + 1 } = F i) ∧ (∀ i, Below wr.heap.size wr (F i)) ∧ (∀ i W, Below wr.heap.size (F i) W → ∃ j, W = F j)) := ⟨hF0, hFb, hFc⟩
        clear hF0 hFb hFc
        refine wp_region_fam F HF.out.1 (by kernel_rfl) (by kernel_rfl) ?_
        repeat (go_big_quiet_step (fail))
        refine wpQuiet_nil ?_
        rintro _ ⟨i2, rfl⟩
        have H3 : Hid (Below w2.heap.size w2 (F i2)) := HB.out.1.trans ((HF.out.2.1 i2).mono HB.out.1.size)
        clear HF yl ul y0 y1 y2 y3 u1 hmc hml
        generalize F i2 = W3 at H3 ⊢
        go_wp2
        go_roundg (n - (k + 1))
        case measure => omega
        case rel => exact ⟨k + 1, y, by go_num, rfl, by omega, rfl, ⟨H3.out, HE2.out, .inr ⟨y, rfl, hy32⟩⟩⟩
      · have dbn : decide (bb < 0) = false := decide_eq_false hbn
        obtain ⟨m, rfl, hm32⟩ := HB.out.2.2.resolve_left hbn
        have u2 := HID.out wr B3.out m hm32
        obtain ⟨iy, hiy⟩ : ∃ o, o = R.idOf y := ⟨_, rfl⟩
        obtain ⟨im, him⟩ : ∃ o, o = R.idOf m := ⟨_, rfl⟩
        rw [← hiy] at u1 HE
        rw [← him] at u2 HE
        obtain ⟨dy, hdy⟩ : ∃ o, o = dist x iy := ⟨_, rfl⟩
        obtain ⟨dm, hdm⟩ : ∃ o, o = dist x im := ⟨_, rfl⟩
        rw [← hdy, ← hdm] at HE
        have HD : Hid (dist x iy = dy ∧ dist x im = dm ∧ Plc iy ∧ Plc im) := ⟨hdy.symm, hdm.symm, by rw [hiy]; exact HI.out.1.u _, by rw [him]; exact HI.out.1.u _⟩
        clear hiy him hdy hdm
        go_upto_region 5 with fail
        obtain ⟨ι, F, _, hF0, hFb, hFc⟩ := grown_fam wr
        have f2 : ∀ i, (F i).cell? ⟨w.heap.size, 2, none⟩ = _ := fun i => cell_grown y2 (hFb i)
        have g1 : ∀ i, (F i).cell? ⟨ib, io + y, none⟩ = _ := fun i => cell_grown u1 (hFb i)
        have g2 : ∀ i, (F i).cell? ⟨ib, io + m, none⟩ = _ := fun i => cell_grown u2 (hFb i)
        have HF : Hid ((∃ i, { wr with drawn := wr.drawn + 1 } = F i) ∧ (∀ i, Below wr.heap.size wr (F i)) ∧ (∀ i W, Below wr.heap.size (F i) W → ∃ j, W = F j)) := ⟨hF0, hFb, hFc⟩
        clear hF0 hFb hFc y0 y1 y2 y3 u1 u2
        refine wp_region_fam F HF.out.1 (by kernel_rfl) (by kernel_rfl) ?_
        repeat (go_big_quiet_step (first
          | (go_at_call 58
             refine Calls.mono (refdist_any _ _ _ ?_ ?_) ?_
             · exact HI.out.2
             · first | exact HD.out.2.2.1 | exact HD.out.2.2.2
             · rintro e' w' ⟨hs, hb⟩; exact ⟨by first | rw [hs, HD.out.1] | rw [hs, HD.out.2.1], by subst hb; exact ⟨_, rfl⟩⟩)))
        refine wpQuiet_nil ?_
        rintro _ ⟨i2, rfl⟩
        have H3 : Hid (Below w2.heap.size w2 (F i2)) := HB.out.1.trans ((HF.out.2.1 i2).mono HB.out.1.size)
        clear HF yl ul f2 g1 g2 hmc hml
        generalize F i2 = W3 at H3 ⊢
        by_cases hd : dy < dm
        · have HE2 : Hid (R.least x (y : Int) (R.live.drop (k + 1)) = R.least x (-1) R.live) := by
            show _ = _
            rw [← HB.out.2.1, HE.out, if_pos (.inr hd)]
          go_wp2
          go_roundg (n - (k + 1))
          case measure => omega
          case rel => exact ⟨k + 1, y, by go_num, rfl, by omega, rfl, ⟨H3.out, HE2.out, .inr ⟨y, rfl, hy32⟩⟩⟩
        · have HE2 : Hid (R.least x (m : Int) (R.live.drop (k + 1)) = R.least x (-1) R.live) := by
            show _ = _
            rw [← HB.out.2.1, HE.out, if_neg (by omega)]
          go_wp2
          go_roundg (n - (k + 1))
          case measure => omega
          case rel => exact ⟨k + 1, m, by go_num, rfl, by omega, rfl, ⟨H3.out, HE2.out, .inr ⟨m, rfl, hm32⟩⟩⟩
    · have B3 : Below w.heap.size w wr := by
        have q := HBX.out.2.trans (H2.out.1.mono HBX.out.2.size)
        exact q.trans (HB.out.1.mono q.size)
      have hE : bb = R.least x (-1) R.live := by
        rw [← HB.out.2.1, List.drop_of_length_le (by have := HN.out; omega)]; rfl
      have HE : Hid (bb = R.least x (-1) R.live) := hE
      clear hE
      go_wp2
      go_ret
      exact ⟨ret_i HE.out, B3⟩
theorem pow_lt64 {k : Nat} (h : k ≤ 63) : (2 : Int) ^ k ≤ 9223372036854775808 := by
  have : (2 : Nat) ^ k ≤ 2 ^ 63 := Nat.pow_le_pow_right (by omega) h
  have e : ((2 : Nat) ^ k : Nat) = ((2 : Nat) ^ k) := rfl
  have q : (((2 : Nat) ^ k : Nat) : Int) ≤ ((2 ^ 63 : Nat) : Int) := by exact_mod_cast this
  have e2 : (((2 : Nat) ^ k : Nat) : Int) = (2 : Int) ^ k := by push_cast; rfl
  have e3 : ((2 ^ 63 : Nat) : Int) = 9223372036854775808 := by decide
  omega

set_option maxHeartbeats 2000000 in
theorem rstart_r (x : Int) (n : Nat) (w : World) (hn : n ≤ 63) (hx : Plc x) :
    Calls Tryz.prog 62 #[.int .u64 x, .int .i64 n] w fun e w' => e = .returned (.int .u64 (startN x n)) ∧ w' = w := by
  have hn0 : ¬ (n : Int) < 0 := by omega
  have hn63 : ¬ (63 : Int) < (n : Int) := by omega
  have HS : Hid (startN x n = (x + 2 ^ n) % 18446744073709551616) := by
    show _ = _
    rw [start_in x n (by omega) (by omega)]; rfl
  go_enter Tryz.func62, Tryz.ntmps62
  go_wp2
  go_loopg [5, 6] n (fun kx p s wr => ∃ (k : Nat) (q : Int), s = .int .i64 k ∧ p = .int .u64 q ∧ k ≤ n ∧ kx = n - k ∧ w = wr ∧ Hid (q = 2 ^ k))
  case atStart => exact ⟨0, 1, rfl, rfl, Nat.zero_le _, rfl, rfl, (rfl : (1 : Int) = 2 ^ 0)⟩
  case round =>
    obtain ⟨k, q, rfl, rfl, hk, rfl, hw, HQ⟩ := hrel
    subst hw
    by_cases hlt : k < n
    · have hltI : (k : Int) < (n : Int) := by omega
      have hp := pow_lt64 (k := k) (by omega)
      have hq1 : q ≤ 9223372036854775807 := by
        have h1 := pow_lt64 (k := k + 1) (by omega)
        rw [HQ.out]
        rw [Int.pow_succ] at h1
        omega
      have hq0 : 0 ≤ q := by rw [HQ.out]; exact Int.le_of_lt (pow_pos_k k)
      have hmul : IntKind.u64.wrap (2 * q) = 2 * q := by simp [IntKind.wrap, IntKind.bits, IntKind.signed]; omega
      have HQ2 : Hid (2 * q = 2 ^ (k + 1)) := by show 2 * q = 2 ^ (k + 1); rw [HQ.out, Int.pow_succ]; omega
      clear hp
      go_wp2
      go_roundg (n - (k + 1))
      case measure => omega
      case rel => exact ⟨k + 1, 2 * q, by go_num, by first | rfl | rw [hmul], by omega, rfl, rfl, HQ2⟩
    · obtain rfl : k = n := by omega
      have hfin : IntKind.u64.wrap (x + q) = startN x k := by rw [HS.out, ← HQ.out]; simp [IntKind.wrap, IntKind.bits, IntKind.signed]
      go_wp2
      go_ret
      exact ⟨by rw [← hfin]; rfl, rfl⟩
set_option maxHeartbeats 2000000 in
theorem rfinger_r (R : Rg) (v : Value) (n k : Nat) (w : World) (h : RfV w R v) (hi : Inv R) (hn : n < 32) (hk : k ≤ 63) :
    Calls Tryz.prog 27 #[v, .int .i64 n, .int .i64 k] w fun e w' => e = .returned (.int .i64 (R.least (startN (R.idOf n) k) (-1) R.live)) ∧ Below w.heap.size w w' := by
  obtain ⟨x0, x1, x2, x3, rfl, ua, uc, la, lc, ia, ic, pa, pc, rfl, rfl, rfl, rfl⟩ := h.shape
  obtain ⟨ib, io, rfl, hil, hids⟩ := h.place
  obtain ⟨W1, hW1⟩ : ∃ W1, W1 = w.alloc (.cells #[.slice ua 32 uc, .slice la 32 lc, .slice (some ⟨ib, io, none⟩) 32 ic, .slice pa 32 pc] 35) := ⟨_, rfl⟩
  have b1 : Below w.heap.size w W1 := by rw [hW1]; exact below_one _ _
  have e0 : W1.heap[w.heap.size]? = some (.cells #[.slice ua 32 uc, .slice la 32 lc, .slice (some ⟨ib, io, none⟩) 32 ic, .slice pa 32 pc] 35 (0, 0)) := by rw [hW1]; exact heap_alloc_new w _
  have u1 := cell_grown (hids n hn) b1
  obtain ⟨y0, y1, y2, y3, yl⟩ := c4_block e0
  obtain ⟨iy, hiy⟩ : ∃ o, o = R.idOf n := ⟨_, rfl⟩
  rw [← hiy] at u1
  obtain ⟨st, hst⟩ : ∃ o, o = startN iy k := ⟨_, rfl⟩
  obtain ⟨res, hres⟩ : ∃ o, o = R.least st (-1) R.live := ⟨_, rfl⟩
  have hup : Plc iy := by rw [hiy]; exact hi.u _
  have HD : Hid (startN iy k = st ∧ Plc iy ∧ Plc st ∧ R.least st (-1) R.live = res ∧ R.least (startN (R.idOf n) k) (-1) R.live = res) := ⟨hst.symm, hup, by rw [hst]; exact start_rng _ _ hup, hres.symm, by rw [hres, hst, hiy]⟩
  clear hiy hst hres hup
  obtain ⟨ι, F, _, hF0, hFb, hFc⟩ := grown_fam W1
  have f0 : ∀ i, (F i).cell? ⟨w.heap.size, 0, none⟩ = _ := fun i => cell_grown y0 (hFb i)
  have f1 : ∀ i, (F i).cell? ⟨w.heap.size, 1, none⟩ = _ := fun i => cell_grown y1 (hFb i)
  have f2 : ∀ i, (F i).cell? ⟨w.heap.size, 2, none⟩ = _ := fun i => cell_grown y2 (hFb i)
  have f3 : ∀ i, (F i).cell? ⟨w.heap.size, 3, none⟩ = _ := fun i => cell_grown y3 (hFb i)
  have g1 : ∀ i, (F i).cell? ⟨ib, io + n, none⟩ = _ := fun i => cell_grown u1 (hFb i)
  have HF : Hid ((∃ i, { W1 with drawn := W1.drawn + 1 } = F i) ∧ (∀ i, Below W1.heap.size W1 (F i)) ∧ (∀ i W, Below W1.heap.size (F i) W → ∃ j, W = F j)) := ⟨hF0, hFb, hFc⟩
  have HV : Hid (∀ i, RfV (F i) R (.agg #[.slice ua 32 uc, .slice la 32 lc, .slice (some ⟨ib, io, none⟩) 32 ic, .slice pa 32 pc])) := fun i => (h.below b1).below (hFb i)
  have HI : Hid (Inv R ∧ Below w.heap.size w W1) := ⟨hi, b1⟩
  clear h hi hids b1 e0 hil hF0 hFb hFc y0 y1 y2 y3 u1
  go_enter Tryz.func27, Tryz.ntmps27
  go_upto_region 1 with fail
  rw [← hW1]
  clear hW1
  refine wp_region_fam F HF.out.1 (by kernel_rfl) (by kernel_rfl) ?_
  repeat (go_big_quiet_step (first
    | (go_at_call 62; refine (rstart_r iy k _ hk HD.out.2.1).mono ?_; rintro e' w' ⟨hs, hb⟩; exact ⟨by rw [hs, HD.out.1], by subst hb; exact ⟨_, rfl⟩⟩)
    | (go_at_call 21; refine (rowner_r R _ st _ (HV.out _) HI.out.1 HD.out.2.2.1).mono ?_; rintro e' w' ⟨hs, hb⟩; exact ⟨by rw [hs, HD.out.2.2.2.1], HF.out.2.2 _ _ (hb.mono (HF.out.2.1 _).size)⟩)))
  refine wpQuiet_nil ?_
  rintro _ ⟨i, rfl⟩
  have HB4 := HF.out.2.1 i
  go_wp2
  go_ret
  exact ⟨ret_i HD.out.2.2.2.2.symm, HI.out.2.trans (HB4.mono HI.out.2.size)⟩
end Go.Proofs.YtgiiadjocfnhlaaGreatDoor

/- wigwagref11.Peer. -/
namespace Go.Proofs.YtgiiadjocfnhlaaGreatDoor
open Go.ChangeShapes Go.WideShapes Go.ChangeAt Go.RowKit Go.Deep
set_option linter.unusedVariables false

theorem least_next {R : Rg} {C : List Int} (hi : Inv R) (c : Cir R C) {j : Nat} (hj : j < C.length) : R.least ((R.idOf (C.getD j 0) + 1) % 18446744073709551616) (-1) R.live = C.getD ((j + 1) % C.length) 0 := by
  obtain ⟨hp, hg, hu⟩ := cir_places hi c
  have hon := owner_next hp hu (i := j) (by simpa using hj)
  rw [hg j hj, List.length_map] at hon
  exact least_owner hi c (by unfold Plc; omega) hon (Nat.mod_lt _ (by omega))
/-- The first m behind the one at i. -/
def sucL (C : List Int) (i m : Nat) : List Int := (List.range m).map fun u => C.getD ((i + 1 + u) % C.length) 0
theorem sucL_succ (C : List Int) (i m : Nat) : sucL C i (m + 1) = sucL C i m ++ [C.getD ((i + 1 + m) % C.length) 0] := by simp [sucL, List.range_succ]
theorem sucL_len (C : List Int) (i m : Nat) : (sucL C i m).length = m := by simp [sucL]
theorem sucL_three {C : List Int} {R : Rg} {i : Nat} (h4 : 4 ≤ C.length) (hi : i < C.length) : sucL C i 3 = (idPe R C i).succ := by
  rw [idPe_succ h4 hi]
  simp [sucL, List.range_succ, Nat.add_assoc]
/-- What is known so far, in its box, the list beside it. -/
structure Pw (W3 wr : World) (q : Nat) (id pv : Int) (sv : Value) (l : List Int) : Prop where
  box : wr.heap[q]? = some (.cells #[.int .u64 id, .int .i64 pv, sv] 71 (0, 0))
  row : wr.ownsRow (q + 1) 3 1 sv l.length (l.map cellI)
  bel : Below q W3 wr
  siz : q + 1 ≤ wr.heap.size
theorem Pw.below {W3 wr w' : World} {q : Nat} {id pv : Int} {sv : Value} {l : List Int} (h : Pw W3 wr q id pv sv l) (hb : Below wr.heap.size wr w') : Pw W3 w' q id pv sv l :=
  ⟨(hb.block _ (lt_of_block h.box)).trans h.box, h.row.kept (row := none) ⟨hb.os, hb.tape, hb.output, hb.size, fun b hb1 _ => hb.block b hb1⟩ (by cases HH : Value.ownBlock _ <;> simp), h.bel.trans (hb.mono (by have := h.siz; omega)), Nat.le_trans h.siz hb.size⟩
theorem Pw.shape {W3 wr : World} {q : Nat} {id pv : Int} {sv : Value} {l : List Int} (h : Pw W3 wr q id pv sv l) : ∃ a c, sv = .slice a l.length c := by
  rcases h.row.2 with ⟨h0, h1⟩ | ⟨g, cap, cur, hv, _⟩
  · exact ⟨none, 0, by rw [h0, h1]⟩
  · exact ⟨_, _, hv⟩
theorem Pw.app {W3 wr w' : World} {q : Nat} {id pv : Int} {sv sv' : Value} {l : List Int} {y : Int} (h : Pw W3 wr q id pv sv l) (ha : Appended (q + 1) 3 wr w' sv sv' (l.length + 1) (l.map cellI ++ [cellI y])) :
    w'.heap[q]? = some (.cells #[.int .u64 id, .int .i64 pv, sv] 71 (0, 0)) ∧ Pw W3 (w'.setCell ⟨q, 2, none⟩ sv') q id pv sv' (l ++ [y]) := by
  have hg := ha.grown
  have hsz := h.siz
  have hne : ∀ b, b ≤ q → sv.ownBlock ≠ some b := fun b hb e => by have := (World.ownsRow.lt h.row b e).1; omega
  have hne' : ∀ b, b ≤ q → sv'.ownBlock ≠ some b := fun b hb e => by have := (World.ownsRow.lt ha.row b e).1; omega
  have hbx : w'.heap[q]? = some (.cells #[.int .u64 id, .int .i64 pv, sv] 71 (0, 0)) := (hg.block q (by omega) (fun e => hne q (Nat.le_refl _) e.symm)).trans h.box
  have hbel : Below q W3 w' := h.bel.trans ⟨hg.os, hg.tape, hg.output, hg.size, fun b hb => hg.block b (by omega) (fun e => hne b (by omega) e.symm)⟩
  refine ⟨hbx, ⟨by simpa using bx_set (j := 2) hbx sv', ?_, hbel.setCell (Nat.le_refl _) _, by have := hg.size; simp [World.setCell]; omega⟩⟩
  have hr : w'.ownsRow (q + 1) 3 1 sv' (l ++ [y]).length ((l ++ [y]).map cellI) := by
    have := ha.row
    simpa using this
  exact row_setCell hr (hne' q (Nat.le_refl _)) _
theorem Pw.pred {W3 wr : World} {q : Nat} {id pv : Int} {sv : Value} {l : List Int} (h : Pw W3 wr q id pv sv l) (y : Int) : Pw W3 (wr.setCell ⟨q, 1, none⟩ (.int .i64 y)) q id y sv l := by
  have hne : sv.ownBlock ≠ some q := fun e => by have := (World.ownsRow.lt h.row q e).1; omega
  exact ⟨by simpa using bx_set (j := 1) h.box (.int .i64 y), row_setCell h.row hne _, h.bel.setCell (Nat.le_refl _) _, by have := h.siz; simp [World.setCell]; omega⟩
theorem src_oneP (w : World) (y : Int) : Src Tryz.prog 1 52 (.slice (some ⟨w.heap.size, 0, none⟩) 1 1) 1 [cellI y] (w.alloc (.cells #[.int .i64 y] 3)) :=
  Src.ofSlice _ Tryz.underlying52 _ _ _ _ rfl (World.news_of_block (cs := #[.int .i64 y]) (t := 3) (fr := (0, 0)) (heap_alloc_new w _)) (by simp [cellI, Value.oneCell'])

set_option maxRecDepth 100000 in
set_option maxHeartbeats 8000000 in
theorem rpeer_r (R : Rg) (C : List Int) (v : Value) (i : Nat) (y : Nat) (w : World) (h : RfV w R v) (hi : Inv R) (hC : Cir R C) (hil : i < C.length) (hy : C.getD i 0 = y) :
    Calls Tryz.prog 30 #[v, .int .i64 y] w fun e w' => ∃ a c, e = .returned (.agg #[.int .u64 (idPe R C i).id, .int .i64 (idPe R C i).pred, .slice a 3 c]) ∧ InIn w' a 3 (idPe R C i).succ ∧ Below w.heap.size w w' := by
  obtain ⟨i0, hif, hz0, hz1, hz2⟩ := info_of Tryz.infoInt
  obtain ⟨x0, x1, x2, x3, rfl, ua, uc, la, lc, ia, ic, pa, pc, rfl, rfl, rfl, rfl⟩ := h.shape
  obtain ⟨ib, io, rfl, hil0, hids⟩ := h.place
  have hlvi : ∀ j, j < C.length → ∃ m : Nat, C.getD j 0 = m ∧ m < 32 := fun j hj => by
    have := hi.rng _ (hC.lv hj)
    exact ⟨(C.getD j 0).toNat, by omega, by omega⟩
  have hy32 : y < 32 := by obtain ⟨m, h1, h2⟩ := hlvi i hil; rw [hy] at h1; omega
  have h4 := hC.four hi
  have hll : R.live.length ≤ 32 := liveTo_len R 32
  obtain ⟨n, hn⟩ : ∃ n, n = C.length := ⟨_, rfl⟩
  have hnl : n = R.live.length := by rw [hn]; exact hC.len
  rw [← hn] at h4 hil hlvi
  rw [← hnl] at hll
  obtain ⟨W3, hW3⟩ : ∃ W3, W3 = ((w.alloc (.cells #[.slice ua 32 uc, .slice la 32 lc, .slice (some ⟨ib, io, none⟩) 32 ic, .slice pa 32 pc] 35)).alloc (.cells #[.int .u64 0, .int .i64 0, .slice none 0 0] 71)).alloc (.cells #[.int .u64 (R.idOf y), .int .i64 (-1), .slice none 0 0] 71) := ⟨_, rfl⟩
  have b3 : Below w.heap.size w W3 := by rw [hW3]; exact ((below_one _ _).trans ((below_one _ _).mono (by simp))).trans ((below_one _ _).mono (by simp; omega))
  have e0 : W3.heap[w.heap.size]? = some (.cells #[.slice ua 32 uc, .slice la 32 lc, .slice (some ⟨ib, io, none⟩) 32 ic, .slice pa 32 pc] 35 (0, 0)) := by rw [hW3, Below.heap_alloc _ _ _ (by simp; omega), Below.heap_alloc _ _ _ (by simp)]; exact heap_alloc_new w _
  have e1 : W3.heap[w.heap.size + 1]? = some (.cells #[.int .u64 0, .int .i64 0, .slice none 0 0] 71 (0, 0)) := by
    rw [hW3, Below.heap_alloc _ _ _ (by simp)]
    simpa using heap_alloc_new (w.alloc (.cells #[.slice ua 32 uc, .slice la 32 lc, .slice (some ⟨ib, io, none⟩) 32 ic, .slice pa 32 pc] 35)) (.cells #[.int .u64 0, .int .i64 0, .slice none 0 0] 71)
  have e2 : W3.heap[w.heap.size + 2]? = some (.cells #[.int .u64 (R.idOf y), .int .i64 (-1), .slice none 0 0] 71 (0, 0)) := by
    rw [hW3]
    simpa using heap_alloc_new ((w.alloc (.cells #[.slice ua 32 uc, .slice la 32 lc, .slice (some ⟨ib, io, none⟩) 32 ic, .slice pa 32 pc] 35)).alloc (.cells #[.int .u64 0, .int .i64 0, .slice none 0 0] 71)) (.cells #[.int .u64 (R.idOf y), .int .i64 (-1), .slice none 0 0] 71)
  have s3 : W3.heap.size = w.heap.size + 3 := by rw [hW3]; simp
  have HBX : Hid (W3.heap[w.heap.size]? = some (.cells #[.slice ua 32 uc, .slice la 32 lc, .slice (some ⟨ib, io, none⟩) 32 ic, .slice pa 32 pc] 35 (0, 0)) ∧ W3.heap[w.heap.size + 1]? = some (.cells #[.int .u64 0, .int .i64 0, .slice none 0 0] 71 (0, 0)) ∧ Below w.heap.size w W3) := ⟨e0, e1, b3⟩
  have HP0 : Hid (Pw W3 W3 (w.heap.size + 2) (R.idOf y) (-1) (.slice none 0 0) (sucL C i 0)) := ⟨e2, World.ownsRow_nil _ _ _ _, Below.refl _ _, by omega⟩
  have HID : Hid (∀ W, Below w.heap.size w W → ∀ k, k < 32 → W.cell? ⟨ib, io + k, none⟩ = some (.int .u64 (R.idOf k))) := fun W hW k hk => cell_grown (hids k hk) hW
  have HV : Hid (∀ W, Below w.heap.size w W → RfV W R (.agg #[.slice ua 32 uc, .slice la 32 lc, .slice (some ⟨ib, io, none⟩) 32 ic, .slice pa 32 pc])) := fun W hW => h.below hW
  have HI : Hid (Inv R ∧ Cir R C ∧ n = C.length ∧ C.getD i 0 = y ∧ n = R.live.length) := ⟨hi, hC, hn, hy, hnl⟩
  have HLV : Hid _ := hlvi
  have ufst := hids y hy32
  have ufl := cell_block ufst
  clear h hi hC hids b3 e0 e1 e2 s3 hil0 hn hnl hy hlvi
  go_enter Tryz.func30, Tryz.ntmps30
  go_upto_region 2 with fail
  rw [← hW3]
  clear hW3 ufst ufl
  have hq2 : Hid (∀ W, Below (w.heap.size + 2) W3 W → Below w.heap.size w W ∧ W.heap[w.heap.size]? = some (.cells #[.slice ua 32 uc, .slice la 32 lc, .slice (some ⟨ib, io, none⟩) 32 ic, .slice pa 32 pc] 35 (0, 0)) ∧ W.heap[w.heap.size + 1]? = some (.cells #[.int .u64 0, .int .i64 0, .slice none 0 0] 71 (0, 0))) := fun W hW => ⟨HBX.out.2.2.trans (hW.mono (by omega)), (hW.block _ (by omega)).trans HBX.out.1, (hW.block _ (by omega)).trans HBX.out.2.1⟩
  obtain ⟨q, hq⟩ : ∃ q, q = w.heap.size + 2 := ⟨_, rfl⟩
  rw [← hq] at HP0 hq2 ⊢
  have HQ : Hid (q = w.heap.size + 2) := hq
  clear hq
  obtain ⟨u0, u1, u2, ul⟩ := c3_block HP0.out.box
  obtain ⟨r0, r1, r2, r3, rl⟩ := c4_block HBX.out.1
  go_wp2_with fail
  refine (rlive_r R _ _ (HV.out _ HBX.out.2.2)).mono ?_
  rintro e w4 ⟨aL, cL, rfl, _, _, b4⟩
  rw [← HI.out.2.2.2.2]
  have H4 : Hid (Pw W3 w4 q (R.idOf y) (-1) (.slice none 0 0) (sucL C i 0)) := HP0.out.below b4
  clear b4 u0 u1 u2 ul r0 r1 r2 r3 rl HP0
  have hxi : R.idOf (C.getD ((i + 0) % n) 0) = R.idOf y := by rw [Nat.add_zero, Nat.mod_eq_of_lt hil, HI.out.2.2.2.1]
  go_wp2
  go_loopg [6, 8] n (fun kx xv s wr => ∃ j : Nat, s = .int .i64 j ∧ (∃ xx, xv = .int .u64 xx ∧ Hid (xx = R.idOf (C.getD ((i + j) % n) 0))) ∧ j + 1 ≤ n ∧ kx = n - j ∧ Hid (∃ pv sv, Pw W3 wr q (R.idOf y) pv sv (sucL C i (min j 3)) ∧ (j ≠ 0 → pv = C.getD ((i + j) % n) 0)))
  case atStart => exact ⟨0, rfl, ⟨_, rfl, hxi.symm⟩, by omega, rfl, ⟨-1, .slice none 0 0, H4.out, fun e => absurd rfl e⟩⟩
  case round =>
    obtain ⟨j, rfl, ⟨xx, rfl, HXX⟩, hj, rfl, HB⟩ := hrel
    clear H4 hxi
    obtain ⟨pv, sv, hP, hpv⟩ := HB.out
    have HPV : Hid (j ≠ 0 → pv = C.getD ((i + j) % n) 0) := hpv
    obtain ⟨sa, sc, hsv⟩ := hP.shape
    rw [sucL_len] at hsv
    subst hsv
    have HP : Hid (Pw W3 wr q (R.idOf y) pv (.slice sa (min j 3) sc) (sucL C i (min j 3))) := hP
    clear hP hpv HB
    obtain ⟨u0, u1, u2, ul⟩ := c3_block HP.out.box
    have uf := fz_block HP.out.box
    obtain ⟨bw, hb0, hb1⟩ := hq2.out _ HP.out.bel
    obtain ⟨r0, r1, r2, r3, rl⟩ := c4_block hb0
    have BW : Hid (Below w.heap.size w wr) := bw
    clear bw
    have hsubn : IntKind.i64.wrap ((n : Int) - 1) = (n : Int) - 1 := by simp [IntKind.wrap, IntKind.bits, IntKind.signed]; omega
    by_cases hlt : j < n - 1
    · have hltI : (j : Int) < (n : Int) - 1 := by omega
      have hmd : (i + j) % n < n := Nat.mod_lt _ (by omega)
      have hnx : ((i + j) % n + 1) % n = (i + (j + 1)) % n := by rw [Nat.mod_add_mod]; congr 1
      obtain ⟨kn, hkn, hk32⟩ := HLV.out ((i + (j + 1)) % n) (Nat.mod_lt _ (by omega))
      have hwr : IntKind.u64.wrap (xx + 1) = (xx + 1) % 18446744073709551616 := by simp [IntKind.wrap, IntKind.bits, IntKind.signed]
      have hln := least_next HI.out.1 HI.out.2.1 (j := (i + j) % n) (by rw [← HI.out.2.2.1]; exact hmd)
      rw [← HI.out.2.2.1, hnx, hkn, ← HXX.out] at hln
      have HLE : Hid (R.least (IntKind.u64.wrap (xx + 1)) (-1) R.live = (kn : Int) ∧ Plc (IntKind.u64.wrap (xx + 1)) ∧ C.getD ((i + (j + 1)) % n) 0 = kn) := ⟨by rw [hwr]; exact hln, by rw [hwr]; unfold Plc; omega, hkn⟩
      clear hwr hln hkn hmd hnx
      go_wp2_with fail
      refine Calls.mono (rowner_r R _ _ _ (HV.out _ BW.out) HI.out.1 HLE.out.2.1) ?_
      rintro e w5 ⟨rfl, b5⟩
      rw [HLE.out.1]
      have H5 : Hid (Pw W3 w5 q (R.idOf y) pv (.slice sa (min j 3) sc) (sucL C i (min j 3))) := HP.out.below b5
      clear b5 u0 u1 u2 ul uf r0 r1 r2 r3 rl hb0 hb1 HP BW
      by_cases hj3 : j < 3
      · have hj3I : (j : Int) < 3 := by omega
        have hmn : min j 3 = j := by omega
        have hmn1 : min (j + 1) 3 = j + 1 := by omega
        rw [hmn] at H5
        obtain ⟨u0, u1, u2, ul⟩ := c3_block H5.out.box
        have hsl : (sucL C i j).length = j := sucL_len C i j
        have HA : Hid ((w5.alloc (.cells #[.int .i64 kn] 3)).ownsRow (q + 1) 3 1 (.slice sa j sc) j ((sucL C i j).map cellI)) := by
          have := (H5.out.below (below_one w5 (.cells #[.int .i64 kn] 3))).row
          rw [hsl] at this; exact this
        have HSz : Hid (q + 1 ≤ w5.heap.size) := H5.out.siz
        go_wp2_with (at_builtin; refine wpList_own_append _ rfl _ _ 52 52 rfl (q + 1) 3 i0 _ 8 Tryz.underlying52 hif hz0 hz1 hz2 rfl _ _ _ rfl HA.out _ 1 [cellI kn] rfl (src_oneP w5 kn) ?c3 ?c4 ?c5 ?_)
        case c3 => unfold maxLen; omega
        case c4 => omega
        case c5 => have := HSz.out; simp; omega
        intro v' w6 ha
        obtain ⟨a', c', rfl⟩ := ha.shape
        have hap := (H5.out.below (below_one w5 (.cells #[.int .i64 kn] 3))).app (y := kn) (sv' := .slice a' (j + 1) c') (by rw [hsl]; exact ha)
        have hsn : sucL C i j ++ [(kn : Int)] = sucL C i (j + 1) := by
          rw [sucL_succ, ← HI.out.2.2.1, show i + 1 + j = i + (j + 1) by omega, HLE.out.2.2]
        rw [hsn] at hap
        have H6 : Hid (Pw W3 ((w6.setCell ⟨q, 2, none⟩ (.slice a' (j + 1) c')).setCell ⟨q, 1, none⟩ (.int .i64 kn)) q (R.idOf y) kn (.slice a' (j + 1) c') (sucL C i (j + 1))) := hap.2.pred kn
        clear u0 u1 u2 ul
        obtain ⟨u0, u1, u2, ul⟩ := c3_block hap.1
        have uf := fz_block hap.1
        obtain ⟨W7, hW7⟩ : ∃ W7, W7 = (w6.setCell ⟨q, 2, none⟩ (.slice a' (j + 1) c')).setCell ⟨q, 1, none⟩ (.int .i64 kn) := ⟨_, rfl⟩
        rw [← hW7] at H6
        obtain ⟨bw, hb0, hb1⟩ := hq2.out _ H6.out.bel
        clear ha HA HSz H5 hap hsn hsl hmn
        go_upto_region 11 with fail
        rw [← hW7]
        clear hW7 u0 u1 u2 ul uf
        obtain ⟨r0, r1, r2, r3, rl⟩ := c4_block hb0
        have uk := HID.out _ bw kn hk32
        have ukl := cell_block uk
        go_wp2
        go_roundg (n - (j + 1))
        case measure => omega
        case rel => exact ⟨j + 1, by go_num, ⟨_, rfl, by show _ = _; rw [HLE.out.2.2]⟩, by omega, rfl, ⟨kn, _, by rw [hmn1]; exact H6.out, fun _ => HLE.out.2.2.symm⟩⟩
      · have hj3I : ¬ (j : Int) < 3 := by omega
        have hmn : min j 3 = 3 := by omega
        have hmn1 : min (j + 1) 3 = 3 := by omega
        rw [hmn] at H5
        have H6 : Hid (Pw W3 (w5.setCell ⟨q, 1, none⟩ (.int .i64 kn)) q (R.idOf y) kn (.slice sa 3 sc) (sucL C i 3)) := H5.out.pred kn
        obtain ⟨u0, u1, u2, ul⟩ := c3_block H5.out.box
        have uf := fz_block H5.out.box
        obtain ⟨W7, hW7⟩ : ∃ W7, W7 = w5.setCell ⟨q, 1, none⟩ (.int .i64 kn) := ⟨_, rfl⟩
        rw [← hW7] at H6
        obtain ⟨bw, hb0, hb1⟩ := hq2.out _ H6.out.bel
        clear H5 hmn
        go_upto_region 11 with fail
        rw [← hW7]
        clear hW7 u0 u1 u2 ul uf
        obtain ⟨r0, r1, r2, r3, rl⟩ := c4_block hb0
        have uk := HID.out _ bw kn hk32
        have ukl := cell_block uk
        go_wp2
        go_roundg (n - (j + 1))
        case measure => omega
        case rel => exact ⟨j + 1, by go_num, ⟨_, rfl, by show _ = _; rw [HLE.out.2.2]⟩, by omega, rfl, ⟨kn, _, by rw [hmn1]; exact H6.out, fun _ => HLE.out.2.2.symm⟩⟩
    · have hjn : j = n - 1 := by omega
      have hltI : ¬ (j : Int) < (n : Int) - 1 := by omega
      have hmn : min j 3 = 3 := by omega
      rw [hmn] at HP u2
      obtain ⟨t0, t1, t2, tl⟩ := c3_block hb1
      have tf := fz_block hb1
      have hidp : (idPe R C i).id = R.idOf y ∧ (idPe R C i).pred = pv ∧ (idPe R C i).succ = sucL C i 3 := by
        refine ⟨by show R.idOf (C.getD i 0) = _; rw [HI.out.2.2.2.1], ?_, (sucL_three (by rw [← HI.out.2.2.1]; exact h4) (by rw [← HI.out.2.2.1]; exact hil)).symm⟩
        rw [HPV.out (by omega), hjn]
        show C.getD ((i + C.length - 1) % C.length) 0 = _
        rw [← HI.out.2.2.1, show i + (n - 1) = i + n - 1 by omega]
      have HDP : Hid _ := hidp
      have hin : InIn wr sa 3 (sucL C i 3) := by
        have hr := HP.out.row
        rw [sucL_len] at hr
        refine in_of_own hr (fun z hz => ?_) (by omega)
        obtain ⟨u, _, rfl⟩ := List.mem_map.1 hz
        obtain ⟨m, hm, hm32⟩ := HLV.out ((i + 1 + u) % n) (Nat.mod_lt _ (by omega))
        rw [← HI.out.2.2.1, hm]
        unfold i64; omega
      have hfar : ∀ z, sa = some z → z.block ≠ w.heap.size + 1 := fun z hz => by
        have hr := HP.out.row
        rw [sucL_len] at hr
        have := own_new hr z hz
        have := HQ.out
        omega
      have hqn : ¬ q = w.heap.size + 1 := by have := HQ.out; omega
      have hqn2 : ¬ w.heap.size + 1 = q := by have := HQ.out; omega
      have HIN : Hid (InIn wr sa 3 (sucL C i 3) ∧ ∀ z, sa = some z → z.block ≠ w.heap.size + 1) := ⟨hin, hfar⟩
      clear hidp hin hfar
      go_wp2
      have hle : w.heap.size ≤ w.heap.size + 1 := Nat.le_succ _
      have hA := ((HIN.out.1.setCell (o := 0) HIN.out.2 (.int .u64 (R.idOf y))).setCell (o := 1) HIN.out.2 (.int .i64 pv)).setCell (o := 2) HIN.out.2 (.slice sa 3 sc)
      have hB := ((BW.out.setCell (p := ⟨w.heap.size + 1, 0, none⟩) hle (.int .u64 (R.idOf y))).setCell (p := ⟨w.heap.size + 1, 1, none⟩) hle (.int .i64 pv)).setCell (p := ⟨w.heap.size + 1, 2, none⟩) hle (.slice sa 3 sc)
      rw [← HDP.out.2.2] at hA
      refine bodyPost_ret (v := .agg #[.int .u64 (R.idOf y), .int .i64 pv, .slice sa 3 sc]) (by simp [results, Tryz.results30, go_sem, *]) rfl ?_
      first
        | exact ⟨sa, sc, by rw [HDP.out.1, HDP.out.2.1], hA, hB⟩
        | exact ⟨sa, ⟨sc, by rw [HDP.out.1, HDP.out.2.1]⟩, hA, hB⟩
end Go.Proofs.YtgiiadjocfnhlaaGreatDoor

/- wigwagref11.Is; the circle's answers of whom it does not have. -/
namespace Go.Proofs.YtgiiadjocfnhlaaGreatDoor
open Go.ChangeShapes Go.WideShapes Go.ChangeAt Go.RowKit Go.Deep
set_option linter.unusedVariables false

theorem isB_all {R : Rg} {C : List Int} : ∀ k, (∀ i, i < k → peB (R.know (C.getD i 0)) (idPe R C i) = true) → isB R C k = true := by
  intro k
  induction k with
  | zero => intro _; rfl
  | succ k ih =>
    intro h
    unfold isB
    rw [ih (fun i hi => h i (by omega)), h k (by omega)]; rfl
theorem Cir.uniq {R : Rg} {C D : List Int} (hi : Inv R) (c : Cir R C) (d : Cir R D) : C = D := by
  have h : C.map R.idOf = D.map R.idOf := rising_same _ _ (List.pairwise_map.2 c.rise) (List.pairwise_map.2 d.rise) (fun x => by
    simp only [List.mem_map]
    constructor
    · rintro ⟨a, ha, rfl⟩; exact ⟨a, (d.mem a).2 ((c.mem a).1 ha), rfl⟩
    · rintro ⟨a, ha, rfl⟩; exact ⟨a, (c.mem a).2 ((d.mem a).1 ha), rfl⟩)
  have hl : C.length = D.length := by rw [c.len, d.len]
  refine List.ext_getElem hl (fun i h1 h2 => ?_)
  have q := congrArg (fun l : List Int => l[i]?) h
  simp [h1, h2] at q
  exact hi.inj _ _ ((c.mem _).1 (List.getElem_mem _)) ((d.mem _).1 (List.getElem_mem _)) q

set_option maxHeartbeats 2000000 in
theorem cpeer_none (C : List Int) (g c d n : Nat) (b : Option Addr) (x : Int) (w : World) (hm : InIn w (some ⟨g, 0, none⟩) n C) (hx : ∀ j, j < n → C.getD j 0 ≠ x) :
    Calls Tryz.prog 24 #[.agg #[.slice (some ⟨g, 0, none⟩) n c, .slice b n d], .int .i64 x] w fun e w' => e = .returned (.tuple #[.agg #[.int .u64 0, .int .i64 0, .slice none 0 0], .bool false]) ∧ Below w.heap.size w w' := by
  obtain ⟨W1, hW1⟩ : ∃ W1, W1 = (w.alloc (.cells #[.slice (some ⟨g, 0, none⟩) n c, .slice b n d] 54)).alloc (.cells #[.int .u64 0, .int .i64 0, .slice none 0 0] 63) := ⟨_, rfl⟩
  have b1 : Below w.heap.size w W1 := by rw [hW1]; exact (below_one _ _).trans ((below_one _ _).mono (by simp))
  have e0 : W1.heap[w.heap.size]? = some (.cells #[.slice (some ⟨g, 0, none⟩) n c, .slice b n d] 54 (0, 0)) := by rw [hW1, Below.heap_alloc _ _ _ (by simp)]; exact heap_alloc_new w _
  have e1 : W1.heap[w.heap.size + 1]? = some (.cells #[.int .u64 0, .int .i64 0, .slice none 0 0] 63 (0, 0)) := by rw [hW1]; simpa using heap_alloc_new (w.alloc (.cells #[.slice (some ⟨g, 0, none⟩) n c, .slice b n d] 54)) (.cells #[.int .u64 0, .int .i64 0, .slice none 0 0] 63)
  have x0 : W1.cell? ⟨w.heap.size, 0, none⟩ = some (.slice (some ⟨g, 0, none⟩) n c) := by simp [World.cell?, e0]
  have xz := cell_block x0
  obtain ⟨t0, t1, t2, tl⟩ := c3_block e1
  have tf := fz_block e1
  have HB : Hid (Below w.heap.size w W1) := b1
  have IDX : Hid _ := index_none (some ⟨g, 0, none⟩) n c C x W1 (hm.below (Nat.le_refl _) b1) hx
  clear hm hx b1 e0 e1
  go_enter Tryz.func24, Tryz.ntmps24
  go_upto_region 1 with fail
  rw [← hW1]
  clear hW1
  go_wp2_with (go_at_call 60; refine Calls.mono IDX.out ?_; rintro e w' ⟨rfl, hw'⟩; subst w')
  refine bodyPost_ret (v := .tuple #[.agg #[.int .u64 0, .int .i64 0, .slice none 0 0], .bool false]) (by simp [results, Tryz.results24, go_sem, *]) rfl ⟨rfl, ?_⟩
  have hle : w.heap.size ≤ w.heap.size + 1 := Nat.le_succ _
  exact ((HB.out.setCell (p := ⟨w.heap.size + 1, 0, none⟩) hle _).setCell (p := ⟨w.heap.size + 1, 1, none⟩) hle _).setCell (p := ⟨w.heap.size + 1, 2, none⟩) hle _
set_option maxHeartbeats 2000000 in
theorem cfinger_none (C : List Int) (g c d n : Nat) (b : Option Addr) (x k : Int) (w : World) (hm : InIn w (some ⟨g, 0, none⟩) n C) (hx : ∀ j, j < n → C.getD j 0 ≠ x) :
    Calls Tryz.prog 26 #[.agg #[.slice (some ⟨g, 0, none⟩) n c, .slice b n d], .int .i64 x, .int .i64 k] w fun e w' => e = .returned (.int .i64 (-1)) ∧ Below w.heap.size w w' := by
  obtain ⟨W1, hW1⟩ : ∃ W1, W1 = w.alloc (.cells #[.slice (some ⟨g, 0, none⟩) n c, .slice b n d] 54) := ⟨_, rfl⟩
  have b1 : Below w.heap.size w W1 := by rw [hW1]; exact below_one _ _
  have x0 : W1.cell? ⟨w.heap.size, 0, none⟩ = some (.slice (some ⟨g, 0, none⟩) n c) := by rw [hW1]; simp
  have xz := cell_block x0
  have HB : Hid (Below w.heap.size w W1) := b1
  have IDX : Hid _ := index_none (some ⟨g, 0, none⟩) n c C x W1 (hm.below (Nat.le_refl _) b1) hx
  clear hm hx b1
  go_enter Tryz.func26, Tryz.ntmps26
  go_upto_region 1 with fail
  rw [← hW1]
  clear hW1
  go_wp2_with (go_at_call 60; refine Calls.mono IDX.out ?_; rintro e w' ⟨rfl, hw'⟩; subst w')
  go_ret
  exact ⟨rfl, HB.out⟩
set_option maxHeartbeats 2000000 in
theorem cfinger_out (C : List Int) (g c d n i : Nat) (b : Option Addr) (k : Int) (w : World) (hm : InIn w (some ⟨g, 0, none⟩) n C) (hi : i < n) (hmin : ∀ j, j < i → C.getD j 0 ≠ C.getD i 0) (hk : k < 0 ∨ 63 < k) :
    Calls Tryz.prog 26 #[.agg #[.slice (some ⟨g, 0, none⟩) n c, .slice b n d], .int .i64 (C.getD i 0), .int .i64 k] w fun e w' => e = .returned (.int .i64 (-1)) ∧ Below w.heap.size w w' := by
  obtain ⟨W1, hW1⟩ : ∃ W1, W1 = w.alloc (.cells #[.slice (some ⟨g, 0, none⟩) n c, .slice b n d] 54) := ⟨_, rfl⟩
  have b1 : Below w.heap.size w W1 := by rw [hW1]; exact below_one _ _
  have x0 : W1.cell? ⟨w.heap.size, 0, none⟩ = some (.slice (some ⟨g, 0, none⟩) n c) := by rw [hW1]; simp
  have xz := cell_block x0
  have HB : Hid (Below w.heap.size w W1) := b1
  obtain ⟨x, hx⟩ : ∃ x, C.getD i 0 = x := ⟨_, rfl⟩
  have IDX : Hid _ := index_i (some ⟨g, 0, none⟩) n c C x i W1 (hm.below (Nat.le_refl _) b1) hi hx (fun j hj => by rw [← hx]; exact hmin j hj)
  rw [hx]
  clear hm hmin b1 hx
  have di : decide ((i : Int) < 0) = false := decide_eq_false (by omega)
  by_cases hk0 : k < 0
  · have dk : decide (k < 0) = true := decide_eq_true hk0
    go_enter Tryz.func26, Tryz.ntmps26
    go_upto_region 1 with fail
    rw [← hW1]
    clear hW1
    go_wp2_with (go_at_call 60; refine Calls.mono IDX.out ?_; rintro e w' ⟨rfl, hw'⟩; subst w')
    go_ret
    exact ⟨rfl, HB.out⟩
  · have hk63 : 63 < k := hk.resolve_left hk0
    have dk : decide (k < 0) = false := decide_eq_false hk0
    have dk2 : decide (63 < k) = true := decide_eq_true hk63
    go_enter Tryz.func26, Tryz.ntmps26
    go_upto_region 1 with fail
    rw [← hW1]
    clear hW1
    go_wp2_with (go_at_call 60; refine Calls.mono IDX.out ?_; rintro e w' ⟨rfl, hw'⟩; subst w')
    go_ret
    exact ⟨rfl, HB.out⟩

set_option maxRecDepth 100000 in
set_option maxHeartbeats 8000000 in
theorem ris_r (R : Rg) (C : List Int) (v : Value) (w : World) (h : RfV w R v) (hi : Inv R) (hC : Cir R C) :
    Calls Tryz.prog 23 #[v] w fun e w' => e = .returned (.bool (isB R C C.length)) ∧ Below w.heap.size w w' := by
  obtain ⟨x0, x1, x2, x3, rfl, ua, uc, la, lc, ia, ic, pa, pc, rfl, rfl, rfl, rfl⟩ := h.shape
  obtain ⟨W1, hW1⟩ : ∃ W1, W1 = w.alloc (.cells #[.slice ua 32 uc, .slice la 32 lc, .slice ia 32 ic, .slice pa 32 pc] 35) := ⟨_, rfl⟩
  have b1 : Below w.heap.size w W1 := by rw [hW1]; exact below_one _ _
  have e0 : W1.heap[w.heap.size]? = some (.cells #[.slice ua 32 uc, .slice la 32 lc, .slice ia 32 ic, .slice pa 32 pc] 35 (0, 0)) := by rw [hW1]; exact heap_alloc_new w _
  have HBX : Hid (W1.heap[w.heap.size]? = some (.cells #[.slice ua 32 uc, .slice la 32 lc, .slice ia 32 ic, .slice pa 32 pc] 35 (0, 0)) ∧ Below w.heap.size w W1) := ⟨e0, b1⟩
  have HV : Hid (∀ W, Below W1.heap.size W1 W → RfV W R (.agg #[.slice ua 32 uc, .slice la 32 lc, .slice ia 32 ic, .slice pa 32 pc])) := fun W hW => (h.below b1).below hW
  have HI : Hid (Inv R ∧ Cir R C) := ⟨hi, hC⟩
  have hll : R.live.length ≤ 32 := liveTo_len R 32
  obtain ⟨n, hn⟩ : ∃ n, n = R.live.length := ⟨_, rfl⟩
  rw [← hn] at hll
  have HN : Hid (n = R.live.length) := hn
  obtain ⟨y0, y1, y2, y3, yl⟩ := c4_block e0
  clear h hi hC b1 e0 hn
  go_enter Tryz.func23, Tryz.ntmps23
  go_upto_region 1 with fail
  rw [← hW1]
  clear hW1
  go_wp2_with fail
  refine (rlive_r R _ _ (HV.out _ (Below.refl _ _))).mono ?_
  rintro e w2 ⟨aL, cL, rfl, hL, _, b2⟩
  rw [← HN.out] at hL ⊢
  have H2 : Hid (Below W1.heap.size W1 w2 ∧ InIn w2 aL n R.live) := ⟨b2, hL⟩
  clear b2 hL y0 y1 y2 y3 yl
  go_wp2
  go_loopg [8] n (fun kx s wr => ∃ k : Nat, s = .int .i64 k ∧ k ≤ n ∧ kx = n - k ∧ Hid (Below w2.heap.size w2 wr ∧ ∀ u, u < k → ∀ i, i < C.length → C.getD i 0 = R.live.getD u 0 → peB (R.know (C.getD i 0)) (idPe R C i) = true))
  case atStart => exact ⟨0, rfl, Nat.zero_le _, rfl, ⟨Below.refl _ _, fun u hu => absurd hu (Nat.not_lt_zero _)⟩⟩
  case round =>
    obtain ⟨k, rfl, hk, rfl, HB⟩ := hrel
    have B1 : Hid (Below W1.heap.size W1 wr) := H2.out.1.trans (HB.out.1.mono H2.out.1.size)
    by_cases hlt : k < n
    · have hkI : (0 : Int) ≤ (k : Int) ∧ (k : Int) < (n : Int) := by omega
      obtain ⟨mb, mo, hmb, hml, _, hmc⟩ := (H2.out.2.below (Nat.le_refl _) HB.out.1).one (v := Value.int .i64) (fun _ => rfl) (i := k) hlt
      subst hmb
      have hkl : k < R.live.length := by have := HN.out; omega
      have hmem : R.live.getD k 0 ∈ R.live := by rw [List.getD_eq_getElem?_getD, List.getElem?_eq_getElem hkl]; simp
      have hrg := (mem_live R _).1 hmem
      obtain ⟨i, hil, hix⟩ := HI.out.2.at_ hrg.2.2
      obtain ⟨y, hy⟩ : ∃ y : Nat, R.live.getD k 0 = y := ⟨(R.live.getD k 0).toNat, by omega⟩
      rw [hy] at hmc hrg hix
      have hy32 : y < 32 := by omega
      obtain ⟨p, hkn⟩ : ∃ p, R.kn y = some p := by
        have := hrg.2.2
        unfold Rg.lives at this
        cases hq : R.kn y with
        | none => rw [hq] at this; simp at this
        | some x => exact ⟨x, rfl⟩
      have hkw : R.know y = p := by simp [Rg.know, hkn]
      have HY : Hid (R.live.getD k 0 = y ∧ i < C.length ∧ C.getD i 0 = y ∧ R.kn y = some p ∧ R.know y = p) := ⟨hy, hil, hix, hkn, hkw⟩
      clear hmem hrg hil hix hy hkn hkw hkl
      have hbx : wr.heap[w.heap.size]? = some (.cells #[.slice ua 32 uc, .slice la 32 lc, .slice ia 32 ic, .slice pa 32 pc] 35 (0, 0)) := (B1.out.block _ (lt_of_block HBX.out.1)).trans HBX.out.1
      obtain ⟨y0, y1, y2, y3, yl⟩ := c4_block hbx
      obtain ⟨bb, bo, ba, bl, bc, hpa, hbl, v0, v1, v2, hpe⟩ := (HV.out _ B1.out).peer hy32 HY.out.2.2.2.1
      subst hpa
      obtain ⟨pid, ppr, psc⟩ := p
      simp only at v0 v1 v2
      have HPE : Hid (InIn wr ba bl psc) := hpe.row
      clear hpe
      obtain ⟨qq, hqq⟩ : ∃ qq, qq = idPe R C i := ⟨_, rfl⟩
      obtain ⟨res, hres⟩ : ∃ res, res = peB ⟨pid, ppr, psc⟩ qq := ⟨_, rfl⟩
      have HQ : Hid (idPe R C i = qq ∧ peB ⟨pid, ppr, psc⟩ qq = res) := ⟨hqq.symm, hres.symm⟩
      clear hqq hres
      have HRP : Hid (∀ W, Below wr.heap.size wr W → Calls Tryz.prog 30 #[.agg #[.slice ua 32 uc, .slice la 32 lc, .slice ia 32 ic, .slice (some ⟨bb, bo, none⟩) 32 pc], .int .i64 y] W fun e w' => ∃ a c, e = .returned (.agg #[.int .u64 qq.id, .int .i64 qq.pred, .slice a 3 c]) ∧ InIn w' a 3 qq.succ ∧ Below wr.heap.size wr w') := fun W hW => by
        refine (rpeer_r R C _ i y W ((HV.out _ B1.out).below hW) HI.out.1 HI.out.2 HY.out.2.1 HY.out.2.2.1).mono ?_
        rintro e w' ⟨a, c, h1, h2, h3⟩
        rw [HQ.out.1] at h1 h2
        exact ⟨a, c, h1, h2, hW.trans (h3.mono hW.size)⟩
      obtain ⟨qid, qpr, qsc⟩ := qq
      simp only at HRP
      have hyI0 : (0 : Int) ≤ (y : Int) := by omega
      have hyI1 : (y : Int) < 32 := by omega
      have hyI2 : (y : Int) < ((32 : Nat) : Int) := by omega
      go_upto_region 4 with fail
      go_cut [21] (fun u wx => u = .bool (!res) ∧ Hid (Below wr.heap.size wr wx))
      case first =>
        go_region_held3 (fun W' => W'.cell? ⟨w.heap.size, 0, none⟩ = some (.slice ua 32 uc) ∧ W'.cell? ⟨w.heap.size, 1, none⟩ = some (.slice la 32 lc) ∧ W'.cell? ⟨w.heap.size, 2, none⟩ = some (.slice ia 32 ic) ∧ W'.cell? ⟨w.heap.size, 3, none⟩ = some (.slice (some ⟨bb, bo, none⟩) 32 pc) ∧ W'.cell? ⟨bb, bo + y * 3, none⟩ = some (.int .u64 pid) ∧ W'.cell? ⟨bb, bo + y * 3 + 1, none⟩ = some (.int .i64 ppr) ∧ W'.cell? ⟨bb, bo + y * 3 + 2, none⟩ = some (.slice ba bl bc))
          (first
            | go_keep
            | assumption)
          (first
            | (go_at_call 30; refine Calls.mono (HRP.out _ ?_) ?_; exact ⟨rfl, rfl, rfl, Nat.le_refl _, fun _ _ => rfl⟩; rintro e wP ⟨a, c, rfl, hin, bP⟩
               have q0 := cell_grown y0 bP
               have q1 := cell_grown y1 bP
               have q2 := cell_grown y2 bP
               have q3 := cell_grown y3 bP
               have q4 := cell_grown v0 bP
               have q5 := cell_grown v1 bP
               have q6 := cell_grown v2 bP
               have ql := cell_block q0
               have ql4 := cell_block q4
               have HPI : Hid (InIn wP a 3 qsc ∧ InIn wP ba bl psc ∧ Below wr.heap.size wr wP) := ⟨hin, HPE.out.below (Nat.le_refl _) bP, bP⟩
               clear hin bP)
            | (go_at_call 28; refine Calls.mono (rsame_any ⟨pid, ppr, psc⟩ ⟨qid, qpr, qsc⟩ ba a bl 3 bc c _ HPI.out.2.1 HPI.out.1) ?_; rintro e wS ⟨rfl, bS⟩
               rw [HQ.out.2]
               have BS : Hid (Below wr.heap.size wr wS) := HPI.out.2.2.trans (bS.mono HPI.out.2.2.size)
               have q0 := cell_grown y0 BS.out
               have q1 := cell_grown y1 BS.out
               have q2 := cell_grown y2 BS.out
               have q3 := cell_grown y3 BS.out
               have q4 := cell_grown v0 BS.out
               have q5 := cell_grown v1 BS.out
               have q6 := cell_grown v2 BS.out
               clear bS))
        all_goals
          go_wp2
          go_meet
          exact ⟨by simp, BS.out⟩
      case rest =>
        rename World => W4
        obtain ⟨rfl, HC⟩ := hcut
        have H4 : Hid (Below w2.heap.size w2 W4) := HB.out.1.trans (HC.out.mono HB.out.1.size)
        clear y0 y1 y2 y3 yl v0 v1 v2 hbl hmc hml hbx HRP
        cases res
        · have HNO : Hid (isB R C C.length = false) := isB_no (k := i) (by rw [HY.out.2.2.1, HY.out.2.2.2.2, HQ.out.1]; exact HQ.out.2) _ HY.out.2.1
          go_wp2
          go_ret
          have q := HBX.out.2.trans (H2.out.1.mono HBX.out.2.size)
          exact ⟨ret_b HNO.out.symm, q.trans (H4.out.mono q.size)⟩
        · have HYS : Hid (∀ u, u < k + 1 → ∀ i', i' < C.length → C.getD i' 0 = R.live.getD u 0 → peB (R.know (C.getD i' 0)) (idPe R C i') = true) := fun u hu i' hi' he => by
            by_cases q : u < k
            · exact HB.out.2 u q i' hi' he
            · obtain rfl : u = k := by omega
              rw [HY.out.1] at he
              have e2 : i' = i := by
                rcases Nat.lt_trichotomy i' i with q | q | q
                · have := HI.out.2.lt q HY.out.2.1; rw [he, HY.out.2.2.1] at this; omega
                · exact q
                · have := HI.out.2.lt q hi'; rw [he, HY.out.2.2.1] at this; omega
              rw [e2, HY.out.2.2.1, HY.out.2.2.2.2, HQ.out.1]; exact HQ.out.2
          go_wp2
          go_roundg (n - (k + 1))
          case measure => omega
          case rel => exact ⟨k + 1, by go_num, by omega, rfl, ⟨H4.out, HYS.out⟩⟩
    · obtain rfl : k = n := by omega
      have HYS : Hid (isB R C C.length = true) := isB_all _ (fun i hi => by
        have hm := HI.out.1.in_live (HI.out.2.lv hi)
        obtain ⟨u, hu, e⟩ := List.getElem_of_mem hm
        refine HB.out.2 u (by have := HN.out; omega) i hi ?_
        rw [List.getD_eq_getElem?_getD (l := R.live), List.getElem?_eq_getElem hu, e]; rfl)
      go_wp2
      go_ret
      have q := HBX.out.2.trans (H2.out.1.mono HBX.out.2.size)
      exact ⟨ret_b HYS.out.symm, q.trans (HB.out.1.mono q.size)⟩
end Go.Proofs.YtgiiadjocfnhlaaGreatDoor
