/- wigwaglaw10.Does: both rings side by side. -/
import Derived.Test.YtmajlldfiiokoaaGreatDoorRfNw
import Derived.Test.YtmajlldfiiokoaaGreatDoorChAll
import Derived.Test.YtmajlldfiiokoaaGreatDoorChAct
import Derived.Test.YtmajlldfiiokoaaGreatDoorOfCode
import Derived.Deep.CutBlock
import Derived.Deep.DeepCutAuto
namespace Go.Proofs.YtmajlldfiiokoaaGreatDoor
open Go.ChangeShapes Go.WideShapes Go.ChangeAt Go.RowKit Go.Deep
set_option linter.unusedVariables false

theorem map_nocell {w : World} {g : Nat} {m : List (Int × Value)} (h : MpAt w g m) {x : Nat} {v : Value} (hc : w.cell? ⟨g, x, none⟩ = some v) : False := by
  obtain ⟨_, es, c, h2, _⟩ := h
  simp [World.cell?, h2] at hc
/-- The document's ring lies where no map lies. -/
theorem RfV.kp {w w' : World} {r gp gk : Nat} {R R0 : Rg} {v : Value} (h : RfV w R v) (hr : RingAt w r gp gk R0) (k : Kp w w' gp gk) : RfV w' R v := by
  obtain ⟨mp, hp, _⟩ := hr.places
  obtain ⟨mk, hk, _⟩ := hr.known
  refine h.off k.size (fun b x u hc _ => k.block b (cell_block hc) (fun e => ?_) (fun e => ?_))
  · subst e; exact map_nocell hp hc
  · subst e; exact map_nocell hk hc
theorem RingAt.gs {w : World} {r gp gk : Nat} {R : Rg} (h : RingAt w r gp gk R) : gp < w.heap.size ∧ gk < w.heap.size := by
  obtain ⟨mp, hp, _⟩ := h.places
  obtain ⟨mk, hk, _⟩ := h.known
  exact ⟨hp.lt, hk.lt⟩
theorem RingAt.off {w w' : World} {r gp gk p : Nat} {R : Rg} (h : RingAt w r gp gk R) (hs : w.heap.size ≤ w'.heap.size) (hb : ∀ b, b ≠ p → w'.heap[b]? = w.heap[b]?) (h1 : r ≠ p) (h2 : gp ≠ p) (h3 : gk ≠ p) (hoff : ∀ b x v, w.cell? ⟨b, x, none⟩ = some v → (∀ a n c, v ≠ .slice a n c) → w'.heap[b]? = w.heap[b]?) : RingAt w' r gp gk R := by
  obtain ⟨mp, hp, hp'⟩ := h.places
  obtain ⟨mk, hk, hk'⟩ := h.known
  refine ⟨(hb r h1).trans h.box, h.ne, ⟨mp, hp.of_block (hb gp h2), hp'⟩, ⟨mk, hk.of_block (hb gk h3), fun k => ?_⟩, h.ids, fun b e => Nat.lt_of_lt_of_le (h.old b e) hs⟩
  have q := hk' k
  cases hkn : R.kn k with
  | none => rw [hkn] at q; cases hlk : look mk k with
    | none => trivial
    | some v => rw [hlk] at q; exact q.elim
  | some x => rw [hkn] at q; cases hlk : look mk k with
    | none => rw [hlk] at q; exact q.elim
    | some v =>
      rw [hlk] at q
      obtain ⟨a, len, cap, e, hin, hd⟩ := q
      exact ⟨a, len, cap, e, ⟨hin.hid, hin.hpred, hin.row.off (by omega) (fun x => ⟨_, rfl, fun _ _ _ q => by cases q⟩) hs hoff, hin.hcap, hin.hmost, hin.hnil⟩, hd⟩
/-- Places are those of addresses below 32 alone. -/
def PlR (R : Rg) : Prop := ∀ m : Int, (m < 0 ∨ 32 ≤ m) → R.pl m = none
theorem PlR.join {R : Rg} (h : PlR R) (n id via : Int) : PlR (R.join n id via) := fun m hm => by
  unfold Rg.join
  split
  · rename_i hc
    have hn : m ≠ n := fun e => by
      subst e
      unfold Rg.joinC at hc
      rw [if_pos hm] at hc
      omega
    show upd R.pl n (some id) m = none
    unfold upd
    rw [if_neg hn]; exact h m hm
  · exact h m hm
theorem PlR.fail {R : Rg} (h : PlR R) (n : Int) : PlR (R.fail n) := fun m hm => by
  unfold Rg.fail
  split
  · exact h m hm
  · exact h m hm
theorem PlR.stab {R : Rg} (h : PlR R) (n : Int) : PlR (R.stab n) := fun m hm => by rw [(stab_alike R n).2]; exact h m hm
theorem PlR.round {R : Rg} (h : PlR R) : PlR R.round := fun m hm => by rw [(round_alike R).2]; exact h m hm
/-- What Does holds: the ring's box, the call's, the answer's. -/
structure DoI (w X : World) (gp gk : Nat) (x0 x1 x2 x3 : Value) (kd n via id : Int) : Prop where
  box : X.heap[w.heap.size]? = some (.cells #[x0, x1, x2, x3] 32 (0, 0))
  act : X.heap[w.heap.size + 1]? = some (.cells #[.int .i64 kd, .int .i64 n, .int .i64 via, .int .u64 id] 61 (0, 0))
  res : X.heap[w.heap.size + 2]? = some (.cells #[.slice none 0 0, .slice none 0 0, .slice none 0 0, .slice none 0 0] 32 (0, 0))
  kp : Kp w X gp gk
  lo : gp < w.heap.size ∧ gk < w.heap.size
theorem DoI.next {w X X' : World} {gp gk : Nat} {x0 x1 x2 x3 : Value} {kd n via id : Int} (h : DoI w X gp gk x0 x1 x2 x3 kd n via id) (k : Kp X X' gp gk) : DoI w X' gp gk x0 x1 x2 x3 kd n via id := by
  have hl := h.lo
  exact ⟨(k.block _ (lt_of_block h.box) (by omega) (by omega)).trans h.box, (k.block _ (lt_of_block h.act) (by omega) (by omega)).trans h.act, (k.block _ (lt_of_block h.res) (by omega) (by omega)).trans h.res, h.kp.trans k, h.lo⟩
theorem DoI.start (w : World) {gp gk : Nat} (hl : gp < w.heap.size ∧ gk < w.heap.size) (x0 x1 x2 x3 : Value) (kd n via id : Int) : DoI w (((w.alloc (.cells #[x0, x1, x2, x3] 32)).alloc (.cells #[.int .i64 kd, .int .i64 n, .int .i64 via, .int .u64 id] 61)).alloc (.cells #[.slice none 0 0, .slice none 0 0, .slice none 0 0, .slice none 0 0] 32)) gp gk x0 x1 x2 x3 kd n via id := by
  refine ⟨?_, ?_, ?_, ?_, hl⟩
  · rw [Below.heap_alloc _ _ _ (by simp; omega), Below.heap_alloc _ _ _ (by simp)]; exact heap_alloc_new w _
  · rw [Below.heap_alloc _ _ _ (by simp)]; simpa using heap_alloc_new (w.alloc (.cells #[x0, x1, x2, x3] 32)) (.cells #[.int .i64 kd, .int .i64 n, .int .i64 via, .int .u64 id] 61)
  · simpa using heap_alloc_new ((w.alloc (.cells #[x0, x1, x2, x3] 32)).alloc (.cells #[.int .i64 kd, .int .i64 n, .int .i64 via, .int .u64 id] 61)) (.cells #[.slice none 0 0, .slice none 0 0, .slice none 0 0, .slice none 0 0] 32)
  · exact Kp.ofBelow (((below_one _ _).trans ((below_one _ _).mono (by simp))).trans ((below_one _ _).mono (by simp; omega)))
theorem of_err (C : Int) (w : World) (hE : ErrType w) : Calls Tryz.prog 59 #[errV C] w fun e w' => e = .returned (.int .i64 C) ∧ Below w.heap.size w w' := by
  unfold errV
  by_cases h : C = 0
  · rw [if_pos h]
    refine (of_nil w).mono ?_
    rintro e w' ⟨rfl, rfl⟩
    exact ⟨by rw [h], Below.refl _ _⟩
  · rw [if_neg h]; exact of_code C w hE
/-- The answer is laid into its box. -/
theorem Rn.ans {wB w X : World} {r gp gk : Nat} {R R' : Rg} {x0 x1 x2 x3 a0 a1 a2 a3 : Value} {kd n via id : Int} (h : Rn wB w r gp gk R) (hd : DoI w X gp gk x0 x1 x2 x3 kd n via id) (hr : RingAt X r gp gk R') (hi : Inv R') (hv : RfV X R' (.agg #[a0, a1, a2, a3])) :
    Rn wB (set4 X (w.heap.size + 2) a0 a1 a2 a3) r gp gk R' ∧ RfV (set4 X (w.heap.size + 2) a0 a1 a2 a3) R' (.agg #[a0, a1, a2, a3]) ∧ Kp w (set4 X (w.heap.size + 2) a0 a1 a2 a3) gp gk ∧ (set4 X (w.heap.size + 2) a0 a1 a2 a3).heap[w.heap.size + 2]? = some (.cells #[a0, a1, a2, a3] 32 (0, 0)) := by
  have hoff := off_set4 hd.res ⟨_, _, _, rfl⟩ ⟨_, _, _, rfl⟩ ⟨_, _, _, rfl⟩ ⟨_, _, _, rfl⟩ a0 a1 a2 a3
  have hsz : X.heap.size ≤ (set4 X (w.heap.size + 2) a0 a1 a2 a3).heap.size := by rw [set4_size]; exact Nat.le_refl _
  have hk : Kp w (set4 X (w.heap.size + 2) a0 a1 a2 a3) gp gk := by
    have e := set4_below (Below.refl (w.heap.size + 2) X) (Nat.le_refl _) a0 a1 a2 a3
    exact ⟨e.os.trans hd.kp.os, e.tape.trans hd.kp.tape, e.output.trans hd.kp.output, by rw [set4_size]; exact hd.kp.size, fun b hb h1 h2 => (set4_other (by omega) _ _ _ _).trans (hd.kp.block b hb h1 h2)⟩
  have hro : RingAt (set4 X (w.heap.size + 2) a0 a1 a2 a3) r gp gk R' := hr.off hsz (fun b hb => set4_other hb a0 a1 a2 a3) (by have := h.ring.lt; omega) (by have := h.ring.lt; omega) (by have := h.ring.lt; omega) hoff
  exact ⟨h.step hro hi hk, hv.off hsz hoff, hk, set4_box hd.res _ _ _ _⟩


set_option maxRecDepth 100000 in
set_option maxHeartbeats 8000000 in
theorem does_r (wB : World) (r gp gk : Nat) (R : Rg) (v : Value) (kd n via id : Int) (w : World) (hE : ErrType wB) (h : Rn wB w r gp gk R) (hv : RfV w R v) (ht : Ac10.ok ⟨kd, n, via, id⟩) :
    Calls Tryz.prog 24 #[.pointer (some ⟨r, 0, none⟩), v, .agg #[.int .i64 kd, .int .i64 n, .int .i64 via, .int .u64 id]] w fun e w' => ∃ R' v', e = .returned (.tuple #[v', .bool true]) ∧ Rn wB w' r gp gk R' ∧ RfV w' R' v' ∧ Kp w w' gp gk ∧ (PlR R → PlR R') := by
  have HE : Hid (ErrType wB) := hE
  have HR : Hid (Rn wB w r gp gk R) := h
  have HT : Hid (Ac10.ok ⟨kd, n, via, id⟩) := ht
  obtain ⟨x0, x1, x2, x3, rfl, ua, uc, la, lc, ia, ic, pa, pc, rfl, rfl, rfl, rfl⟩ := hv.shape
  have HV : Hid (RfV w R (.agg #[.slice ua 32 uc, .slice la 32 lc, .slice ia 32 ic, .slice pa 32 pc])) := hv
  clear hE h hv ht
  obtain ⟨W1, hW1⟩ : ∃ W1, W1 = ((w.alloc (.cells #[.slice ua 32 uc, .slice la 32 lc, .slice ia 32 ic, .slice pa 32 pc] 32)).alloc (.cells #[.int .i64 kd, .int .i64 n, .int .i64 via, .int .u64 id] 61)).alloc (.cells #[.slice none 0 0, .slice none 0 0, .slice none 0 0, .slice none 0 0] 32) := ⟨_, rfl⟩
  have H1 : Hid (DoI w W1 gp gk (.slice ua 32 uc) (.slice la 32 lc) (.slice ia 32 ic) (.slice pa 32 pc) kd n via id ∧ Below w.heap.size w W1) := by
    rw [hW1]; exact ⟨DoI.start w HR.out.ring.lt.2 _ _ _ _ _ _ _ _, ((below_one _ _).trans ((below_one _ _).mono (by simp))).trans ((below_one _ _).mono (by simp; omega))⟩
  go_enter Tryz.func24, Tryz.ntmps24
  go_upto_region 1 with fail
  rw [← hW1]
  clear hW1
  obtain ⟨y0, y1, y2, y3, yl⟩ := c4_block H1.out.1.act
  by_cases k1 : kd = 1
  · subst k1
    go_wp2_with fail
    refine (join_r r gp gk R n id via W1 (HR.out.ring.below H1.out.2) HT.out.2.2.2 HT.out.2.2.1).mono ?_
    rintro e w2 ⟨rfl, hr2, kp2⟩
    have H2 : Hid (DoI w w2 gp gk (.slice ua 32 uc) (.slice la 32 lc) (.slice ia 32 ic) (.slice pa 32 pc) 1 n via id ∧ RingAt w2 r gp gk (R.join n id via) ∧ RfV w2 R (.agg #[.slice ua 32 uc, .slice la 32 lc, .slice ia 32 ic, .slice pa 32 pc])) := ⟨H1.out.1.next kp2, hr2, (HV.out.below H1.out.2).kp (HR.out.ring.below H1.out.2) kp2⟩
    clear hr2 kp2 y0 y1 y2 y3 yl H1
    obtain ⟨C, hC⟩ : ∃ C, C = R.joinC n id via := ⟨_, rfl⟩
    rw [← hC]
    obtain ⟨ev, hev⟩ : ∃ ev, ev = errV C := ⟨_, rfl⟩
    rw [← hev]
    have HC : Hid (C = R.joinC n id via ∧ ev = errV C) := ⟨hC, hev⟩
    clear hC hev
    obtain ⟨y0, y1, y2, y3, yl⟩ := c4_block H2.out.1.act
    obtain ⟨b0, b1, b2, b3, bl⟩ := c4_block H2.out.1.box
    go_wp2_with fail
    refine (rjoin_r R _ n id via w2 H2.out.2.2 HR.out.inv HT.out.2.2.2).mono ?_
    rintro e w3 ⟨v', rfl, hv3, hb3⟩
    rw [← HC.out.1]
    obtain ⟨a0, a1, a2, a3, rfl, za, zb, zc, zd, ze, zf, zg, zh, rfl, rfl, rfl, rfl⟩ := hv3.shape
    obtain ⟨W4, hW4⟩ : ∃ W4, W4 = w3.alloc (.cells #[.slice za 32 zb, .slice zc 32 zd, .slice ze 32 zf, .slice zg 32 zh] 32) := ⟨_, rfl⟩
    have B4 : Below w2.heap.size w2 W4 := by rw [hW4]; exact hb3.trans ((below_one _ _).mono hb3.size)
    have hbx : W4.heap[w3.heap.size]? = some (.cells #[.slice za 32 zb, .slice zc 32 zd, .slice ze 32 zf, .slice zg 32 zh] 32 (0, 0)) := by rw [hW4]; exact heap_alloc_new w3 _
    have H4 : Hid (DoI w W4 gp gk (.slice ua 32 uc) (.slice la 32 lc) (.slice ia 32 ic) (.slice pa 32 pc) 1 n via id ∧ RingAt W4 r gp gk (R.join n id via) ∧ RfV W4 (R.join n id via) (.agg #[.slice za 32 zb, .slice zc 32 zd, .slice ze 32 zf, .slice zg 32 zh])) := ⟨H2.out.1.next (Kp.ofBelow B4), H2.out.2.1.below B4, hv3.below (by rw [hW4]; exact below_one _ _)⟩
    have HOF : Hid (∀ W, Below W4.heap.size W4 W → Calls Tryz.prog 59 #[ev] W fun e w' => e = .returned (.int .i64 C) ∧ Below W.heap.size W w') := fun W hW => by
      rw [HC.out.2]
      exact of_err C W (HE.out.below HE.out.lt ((HR.out.bel.trans (H4.out.1.kp.below HR.out.gp HR.out.gk HR.out.bel.size)).trans (hW.mono (Nat.le_trans HR.out.bel.size H4.out.1.kp.size))))
    clear hv3 hb3 B4 y0 y1 y2 y3 yl b0 b1 b2 b3 bl H2
    obtain ⟨c0, c1, c2, c3, cl⟩ := c4_block hbx
    obtain ⟨s0, s1, s2, s3, sl⟩ := c4_block H4.out.1.res
    have sf := fz_block H4.out.1.res
    go_upto_region 5 with fail
    rw [← hW4]
    clear hW4 hbx
    go_cut [7] (fun u wx => u = .bool true ∧ ∃ w9, Hid (wx = set4 w9 (w.heap.size + 2) (.slice za 32 zb) (.slice zc 32 zd) (.slice ze 32 zf) (.slice zg 32 zh) ∧ Below W4.heap.size W4 w9))
    case first =>
      go_region_law
        ((go_simp; go_at_call 59; refine Calls.mono (HOF.out _ (by exact ⟨rfl, rfl, rfl, Nat.le_refl _, fun _ _ => rfl⟩)) ?_; rintro e w9 ⟨rfl, hb9⟩
          have B9 : Below W4.heap.size W4 w9 := ⟨hb9.os, hb9.tape, hb9.output, hb9.size, hb9.block⟩
          have v0 := cell_grown c0 B9
          have v1 := cell_grown c1 B9
          have v2 := cell_grown c2 B9
          have v3 := cell_grown c3 B9
          have t0 := cell_grown s0 B9
          have t1 := cell_grown s1 B9
          have t2 := cell_grown s2 B9
          have t3 := cell_grown s3 B9
          have zf' : ∀ j, w9.frozen? ⟨w.heap.size + 2, j, none⟩ = false := fun j => (World.frozen?_of_block (a := ⟨w.heap.size + 2, j, none⟩) (B9.block _ sl)).trans (sf j)
          have z0 := zf' 0
          have z1 := zf' 1
          have z2 := zf' 2
          have z3 := zf' 3
          have yl := cell_block v0
          have yl2 := cell_block t0
          clear zf'))
      all_goals (try go_wp2_with fail)
      all_goals go_meet
      all_goals exact ⟨by simp, w9, rfl, B9⟩
    case rest =>
      rename World => X9
      obtain ⟨hu, w9, HX⟩ := hcut
      obtain ⟨hX9, hb9⟩ := HX.out
      have ha := HR.out.ans (H4.out.1.next (Kp.ofBelow hb9)) (H4.out.2.1.below hb9) (HR.out.inv.join n id via HT.out.2.2.2) (H4.out.2.2.below hb9)
      rw [← hX9] at ha
      obtain ⟨q0, q1, q2, q3, ql⟩ := c4_block ha.2.2.2
      have HA : Hid _ := ha
      clear ha hX9 hb9 HX c0 c1 c2 c3 cl s0 s1 s2 s3 sl sf HOF H4
      subst hu
      go_wp2
      refine bodyPost_ret (v := .tuple #[.agg #[.slice za 32 zb, .slice zc 32 zd, .slice ze 32 zf, .slice zg 32 zh], .bool true]) (by simp [results, Tryz.results24, go_sem, q0, q1, q2, q3]) rfl ⟨_, _, rfl, HA.out.1, HA.out.2.1, HA.out.2.2.1, fun q => q.join n id via⟩
  have k1' : (kd == 1) = false := by simpa using k1
  by_cases k2 : kd = 2
  · subst k2
    go_wp2_with fail
    refine (fail_r r gp gk R n W1 (HR.out.ring.below H1.out.2)).mono ?_
    rintro e w2 ⟨rfl, hr2, kp2⟩
    have H2 : Hid (DoI w w2 gp gk (.slice ua 32 uc) (.slice la 32 lc) (.slice ia 32 ic) (.slice pa 32 pc) 2 n via id ∧ RingAt w2 r gp gk (R.fail n) ∧ RfV w2 R (.agg #[.slice ua 32 uc, .slice la 32 lc, .slice ia 32 ic, .slice pa 32 pc])) := ⟨H1.out.1.next kp2, hr2, (HV.out.below H1.out.2).kp (HR.out.ring.below H1.out.2) kp2⟩
    clear hr2 kp2 y0 y1 y2 y3 yl H1
    obtain ⟨C, hC⟩ : ∃ C, C = R.failC n := ⟨_, rfl⟩
    rw [← hC]
    obtain ⟨ev, hev⟩ : ∃ ev, ev = errV C := ⟨_, rfl⟩
    rw [← hev]
    have HC : Hid (C = R.failC n ∧ ev = errV C) := ⟨hC, hev⟩
    clear hC hev
    obtain ⟨y0, y1, y2, y3, yl⟩ := c4_block H2.out.1.act
    obtain ⟨b0, b1, b2, b3, bl⟩ := c4_block H2.out.1.box
    go_wp2_with fail
    refine (rfail_r R _ n w2 H2.out.2.2 HR.out.inv).mono ?_
    rintro e w3 ⟨v', rfl, hv3, hb3⟩
    rw [← HC.out.1]
    obtain ⟨a0, a1, a2, a3, rfl, za, zb, zc, zd, ze, zf, zg, zh, rfl, rfl, rfl, rfl⟩ := hv3.shape
    obtain ⟨W4, hW4⟩ : ∃ W4, W4 = w3.alloc (.cells #[.slice za 32 zb, .slice zc 32 zd, .slice ze 32 zf, .slice zg 32 zh] 32) := ⟨_, rfl⟩
    have B4 : Below w2.heap.size w2 W4 := by rw [hW4]; exact hb3.trans ((below_one _ _).mono hb3.size)
    have hbx : W4.heap[w3.heap.size]? = some (.cells #[.slice za 32 zb, .slice zc 32 zd, .slice ze 32 zf, .slice zg 32 zh] 32 (0, 0)) := by rw [hW4]; exact heap_alloc_new w3 _
    have H4 : Hid (DoI w W4 gp gk (.slice ua 32 uc) (.slice la 32 lc) (.slice ia 32 ic) (.slice pa 32 pc) 2 n via id ∧ RingAt W4 r gp gk (R.fail n) ∧ RfV W4 (R.fail n) (.agg #[.slice za 32 zb, .slice zc 32 zd, .slice ze 32 zf, .slice zg 32 zh])) := ⟨H2.out.1.next (Kp.ofBelow B4), H2.out.2.1.below B4, hv3.below (by rw [hW4]; exact below_one _ _)⟩
    have HOF : Hid (∀ W, Below W4.heap.size W4 W → Calls Tryz.prog 59 #[ev] W fun e w' => e = .returned (.int .i64 C) ∧ Below W.heap.size W w') := fun W hW => by
      rw [HC.out.2]
      exact of_err C W (HE.out.below HE.out.lt ((HR.out.bel.trans (H4.out.1.kp.below HR.out.gp HR.out.gk HR.out.bel.size)).trans (hW.mono (Nat.le_trans HR.out.bel.size H4.out.1.kp.size))))
    clear hv3 hb3 B4 y0 y1 y2 y3 yl b0 b1 b2 b3 bl H2
    obtain ⟨c0, c1, c2, c3, cl⟩ := c4_block hbx
    obtain ⟨s0, s1, s2, s3, sl⟩ := c4_block H4.out.1.res
    have sf := fz_block H4.out.1.res
    go_upto_region 9 with fail
    rw [← hW4]
    clear hW4 hbx
    go_cut [7] (fun u wx => u = .bool true ∧ ∃ w9, Hid (wx = set4 w9 (w.heap.size + 2) (.slice za 32 zb) (.slice zc 32 zd) (.slice ze 32 zf) (.slice zg 32 zh) ∧ Below W4.heap.size W4 w9))
    case first =>
      go_region_law
        ((go_simp; go_at_call 59; refine Calls.mono (HOF.out _ (by exact ⟨rfl, rfl, rfl, Nat.le_refl _, fun _ _ => rfl⟩)) ?_; rintro e w9 ⟨rfl, hb9⟩
          have B9 : Below W4.heap.size W4 w9 := ⟨hb9.os, hb9.tape, hb9.output, hb9.size, hb9.block⟩
          have v0 := cell_grown c0 B9
          have v1 := cell_grown c1 B9
          have v2 := cell_grown c2 B9
          have v3 := cell_grown c3 B9
          have t0 := cell_grown s0 B9
          have t1 := cell_grown s1 B9
          have t2 := cell_grown s2 B9
          have t3 := cell_grown s3 B9
          have zf' : ∀ j, w9.frozen? ⟨w.heap.size + 2, j, none⟩ = false := fun j => (World.frozen?_of_block (a := ⟨w.heap.size + 2, j, none⟩) (B9.block _ sl)).trans (sf j)
          have z0 := zf' 0
          have z1 := zf' 1
          have z2 := zf' 2
          have z3 := zf' 3
          have yl := cell_block v0
          have yl2 := cell_block t0
          clear zf'))
      all_goals (try go_wp2_with fail)
      all_goals go_meet
      all_goals exact ⟨by simp, w9, rfl, B9⟩
    case rest =>
      rename World => X9
      obtain ⟨hu, w9, HX⟩ := hcut
      obtain ⟨hX9, hb9⟩ := HX.out
      have ha := HR.out.ans (H4.out.1.next (Kp.ofBelow hb9)) (H4.out.2.1.below hb9) (HR.out.inv.fail n) (H4.out.2.2.below hb9)
      rw [← hX9] at ha
      obtain ⟨q0, q1, q2, q3, ql⟩ := c4_block ha.2.2.2
      have HA : Hid _ := ha
      clear ha hX9 hb9 HX c0 c1 c2 c3 cl s0 s1 s2 s3 sl sf HOF H4
      subst hu
      go_wp2
      refine bodyPost_ret (v := .tuple #[.agg #[.slice za 32 zb, .slice zc 32 zd, .slice ze 32 zf, .slice zg 32 zh], .bool true]) (by simp [results, Tryz.results24, go_sem, q0, q1, q2, q3]) rfl ⟨_, _, rfl, HA.out.1, HA.out.2.1, HA.out.2.2.1, fun q => q.fail n⟩
  have k2' : (kd == 2) = false := by simpa using k2
  by_cases k3 : kd = 3
  · subst k3
    go_wp2_with fail
    refine (stab_r r gp gk R n W1 (HR.out.ring.below H1.out.2) HT.out.2.1).mono ?_
    rintro e w2 ⟨rfl, hr2, kp2⟩
    have H2 : Hid (DoI w w2 gp gk (.slice ua 32 uc) (.slice la 32 lc) (.slice ia 32 ic) (.slice pa 32 pc) 3 n via id ∧ RingAt w2 r gp gk (R.stab n) ∧ RfV w2 R (.agg #[.slice ua 32 uc, .slice la 32 lc, .slice ia 32 ic, .slice pa 32 pc])) := ⟨H1.out.1.next kp2, hr2, (HV.out.below H1.out.2).kp (HR.out.ring.below H1.out.2) kp2⟩
    clear hr2 kp2 y0 y1 y2 y3 yl H1
    obtain ⟨C, hC⟩ : ∃ C, C = R.stabC n := ⟨_, rfl⟩
    rw [← hC]
    obtain ⟨ev, hev⟩ : ∃ ev, ev = errV C := ⟨_, rfl⟩
    rw [← hev]
    have HC : Hid (C = R.stabC n ∧ ev = errV C) := ⟨hC, hev⟩
    clear hC hev
    obtain ⟨y0, y1, y2, y3, yl⟩ := c4_block H2.out.1.act
    obtain ⟨b0, b1, b2, b3, bl⟩ := c4_block H2.out.1.box
    go_wp2_with fail
    refine (rstab_r R _ n w2 H2.out.2.2 HR.out.inv).mono ?_
    rintro e w3 ⟨v', rfl, hv3, hb3⟩
    rw [← HC.out.1]
    obtain ⟨a0, a1, a2, a3, rfl, za, zb, zc, zd, ze, zf, zg, zh, rfl, rfl, rfl, rfl⟩ := hv3.shape
    obtain ⟨W4, hW4⟩ : ∃ W4, W4 = w3.alloc (.cells #[.slice za 32 zb, .slice zc 32 zd, .slice ze 32 zf, .slice zg 32 zh] 32) := ⟨_, rfl⟩
    have B4 : Below w2.heap.size w2 W4 := by rw [hW4]; exact hb3.trans ((below_one _ _).mono hb3.size)
    have hbx : W4.heap[w3.heap.size]? = some (.cells #[.slice za 32 zb, .slice zc 32 zd, .slice ze 32 zf, .slice zg 32 zh] 32 (0, 0)) := by rw [hW4]; exact heap_alloc_new w3 _
    have H4 : Hid (DoI w W4 gp gk (.slice ua 32 uc) (.slice la 32 lc) (.slice ia 32 ic) (.slice pa 32 pc) 3 n via id ∧ RingAt W4 r gp gk (R.stab n) ∧ RfV W4 (R.stab n) (.agg #[.slice za 32 zb, .slice zc 32 zd, .slice ze 32 zf, .slice zg 32 zh])) := ⟨H2.out.1.next (Kp.ofBelow B4), H2.out.2.1.below B4, hv3.below (by rw [hW4]; exact below_one _ _)⟩
    have HOF : Hid (∀ W, Below W4.heap.size W4 W → Calls Tryz.prog 59 #[ev] W fun e w' => e = .returned (.int .i64 C) ∧ Below W.heap.size W w') := fun W hW => by
      rw [HC.out.2]
      exact of_err C W (HE.out.below HE.out.lt ((HR.out.bel.trans (H4.out.1.kp.below HR.out.gp HR.out.gk HR.out.bel.size)).trans (hW.mono (Nat.le_trans HR.out.bel.size H4.out.1.kp.size))))
    clear hv3 hb3 B4 y0 y1 y2 y3 yl b0 b1 b2 b3 bl H2
    obtain ⟨c0, c1, c2, c3, cl⟩ := c4_block hbx
    obtain ⟨s0, s1, s2, s3, sl⟩ := c4_block H4.out.1.res
    have sf := fz_block H4.out.1.res
    go_upto_region 13 with fail
    rw [← hW4]
    clear hW4 hbx
    go_cut [7] (fun u wx => u = .bool true ∧ ∃ w9, Hid (wx = set4 w9 (w.heap.size + 2) (.slice za 32 zb) (.slice zc 32 zd) (.slice ze 32 zf) (.slice zg 32 zh) ∧ Below W4.heap.size W4 w9))
    case first =>
      go_region_law
        ((go_simp; go_at_call 59; refine Calls.mono (HOF.out _ (by exact ⟨rfl, rfl, rfl, Nat.le_refl _, fun _ _ => rfl⟩)) ?_; rintro e w9 ⟨rfl, hb9⟩
          have B9 : Below W4.heap.size W4 w9 := ⟨hb9.os, hb9.tape, hb9.output, hb9.size, hb9.block⟩
          have v0 := cell_grown c0 B9
          have v1 := cell_grown c1 B9
          have v2 := cell_grown c2 B9
          have v3 := cell_grown c3 B9
          have t0 := cell_grown s0 B9
          have t1 := cell_grown s1 B9
          have t2 := cell_grown s2 B9
          have t3 := cell_grown s3 B9
          have zf' : ∀ j, w9.frozen? ⟨w.heap.size + 2, j, none⟩ = false := fun j => (World.frozen?_of_block (a := ⟨w.heap.size + 2, j, none⟩) (B9.block _ sl)).trans (sf j)
          have z0 := zf' 0
          have z1 := zf' 1
          have z2 := zf' 2
          have z3 := zf' 3
          have yl := cell_block v0
          have yl2 := cell_block t0
          clear zf'))
      all_goals (try go_wp2_with fail)
      all_goals go_meet
      all_goals exact ⟨by simp, w9, rfl, B9⟩
    case rest =>
      rename World => X9
      obtain ⟨hu, w9, HX⟩ := hcut
      obtain ⟨hX9, hb9⟩ := HX.out
      have ha := HR.out.ans (H4.out.1.next (Kp.ofBelow hb9)) (H4.out.2.1.below hb9) (HR.out.inv.stab n) (H4.out.2.2.below hb9)
      rw [← hX9] at ha
      obtain ⟨q0, q1, q2, q3, ql⟩ := c4_block ha.2.2.2
      have HA : Hid _ := ha
      clear ha hX9 hb9 HX c0 c1 c2 c3 cl s0 s1 s2 s3 sl sf HOF H4
      subst hu
      go_wp2
      refine bodyPost_ret (v := .tuple #[.agg #[.slice za 32 zb, .slice zc 32 zd, .slice ze 32 zf, .slice zg 32 zh], .bool true]) (by simp [results, Tryz.results24, go_sem, q0, q1, q2, q3]) rfl ⟨_, _, rfl, HA.out.1, HA.out.2.1, HA.out.2.2.1, fun q => q.stab n⟩
  have k3' : (kd == 3) = false := by simpa using k3
  by_cases k4 : kd = 4
  · subst k4
    go_wp2_with fail
    refine (round_r r gp gk R W1 (HR.out.ring.below H1.out.2)).mono ?_
    rintro e w2 ⟨rfl, hr2, kp2⟩
    have H2 : Hid (DoI w w2 gp gk (.slice ua 32 uc) (.slice la 32 lc) (.slice ia 32 ic) (.slice pa 32 pc) 4 n via id ∧ RingAt w2 r gp gk R.round ∧ RfV w2 R (.agg #[.slice ua 32 uc, .slice la 32 lc, .slice ia 32 ic, .slice pa 32 pc])) := ⟨H1.out.1.next kp2, hr2, (HV.out.below H1.out.2).kp (HR.out.ring.below H1.out.2) kp2⟩
    clear hr2 kp2 y0 y1 y2 y3 yl H1
    obtain ⟨b0, b1, b2, b3, bl⟩ := c4_block H2.out.1.box
    go_wp2_with fail
    refine (rround_r R _ w2 H2.out.2.2 HR.out.inv).mono ?_
    rintro e w3 ⟨v', rfl, hv3, hb3⟩
    obtain ⟨a0, a1, a2, a3, rfl, za, zb, zc, zd, ze, zf, zg, zh, rfl, rfl, rfl, rfl⟩ := hv3.shape
    have HA : Hid _ := HR.out.ans (H2.out.1.next (Kp.ofBelow hb3)) (H2.out.2.1.below hb3) HR.out.inv.round hv3
    have hres := (H2.out.1.next (Kp.ofBelow hb3)).res
    obtain ⟨s0, s1, s2, s3, sl⟩ := c4_block hres
    have sf := fz_block hres
    clear hres hv3 hb3 b0 b1 b2 b3 bl H2
    go_wp2
    refine bodyPost_ret (v := .tuple #[.agg #[.slice za 32 zb, .slice zc 32 zd, .slice ze 32 zf, .slice zg 32 zh], .bool true]) (by simp [results, Tryz.results24, go_sem, s0, s1, s2, s3]) rfl ⟨_, _, rfl, HA.out.1, HA.out.2.1, HA.out.2.2.1, fun q => q.round⟩
  have k4' : (kd == 4) = false := by simpa using k4
  have HA : Hid _ := HR.out.ans H1.out.1 (HR.out.ring.below H1.out.2) HR.out.inv (HV.out.below H1.out.2)
  obtain ⟨b0, b1, b2, b3, bl⟩ := c4_block H1.out.1.box
  obtain ⟨s0, s1, s2, s3, sl⟩ := c4_block H1.out.1.res
  have sf := fz_block H1.out.1.res
  clear H1
  go_wp2
  refine bodyPost_ret (v := .tuple #[.agg #[.slice ua 32 uc, .slice la 32 lc, .slice ia 32 ic, .slice pa 32 pc], .bool true]) (by simp [results, Tryz.results24, go_sem, s0, s1, s2, s3]) rfl ⟨_, _, rfl, HA.out.1, HA.out.2.1, HA.out.2.2.1, fun q => q⟩
end Go.Proofs.YtmajlldfiiokoaaGreatDoor
