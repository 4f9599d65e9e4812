/- The reader of package filter: str. -/
import Derived.Test.YtkncpojijfeahaaGreatDoorFilNum
import Derived.Test.YtkncpojijfeahaaGreatDoorJoinBkBase
import Derived.Deep.AppendSrc
import Derived.Deep.RegionHeld3
import Derived.Deep.RegionLaw
import Derived.Deep.AppendLies
import Derived.Laws.BytesArg
import Derived.Laws.IdiomStrings
namespace Go.Proofs.YtkncpojijfeahaaGreatDoor
open Go.ChangeShapes Go.WideShapes Go.ChangeAt Go.RowKit
set_option linter.unusedVariables false

def cellB (c : UInt8) : Value := .int .u8 (c.toNat : Int)
theorem Tryz.infoU8 : (Tryz.prog.info? 5).map (fun i => (i.zero, i.size, i.bytes)) = some (some (.int .u8 0), 1, 1) := by kernel_rfl
section
variable {P : Program} (w : World)
/-- An append to an own row (one cell an element) at a step of a region that draws its order. -/
theorem step_own_src1 {ops : Array Oper} {o : Oper} {a : Act} {K : Act → World → Prop} {Q : Exit → Act → World → Prop} {E : Prop} (hgd : o.guard = none) (s x : Operand) (t tx : TypeId)
    (ho : o.op = .call { callee := .builtin .append, args := #[s, x], argTypes := #[t, tx] })
    (base : Nat) (e : TypeId) (i : TypeInfo) (z : Value) (bytes : Nat) (ht : P.underlying t = some (.slice e)) (hi : P.info? e = some i) (hz : i.zero = some z)
    (hsize : i.size = 1) (hby : i.bytes = bytes) (hzs : z.cells.size = 1)
    (v : Value) (n : Nat) (xs : List Value) (hv : a.eval s = v) (hown : w.ownsRow base e 1 v n xs) (xv : Value) (m : Nat) (news : List Value) (hx : a.eval x = xv) (hs : Src P 1 tx xv m news w)
    (h63 : n + m ≤ maxLen) (hbytes : (n + m) * bytes ≤ 140737488355328) (hbase : base ≤ w.heap.size)
    (hK : ∀ v' w', Appended base e w w' v v' (n + m) (xs ++ news) → K (a.put o.dst v') w') :
    if Region.wanted o (yielded ops a.tmps) = true then Oper.wp P o a w K Q else E := by
  have hw : Region.wanted o (yielded ops a.tmps) = true := by simp [Region.wanted, hgd]
  rw [if_pos hw]
  obtain ⟨v', w', hrun, r'⟩ := own_append (P := P) w base t tx o.type e i z bytes ht hi hz hsize hby hzs v n xs hown xv m news hs h63 hbytes hbase
  unfold Oper.wp execOp
  simp only [ho, resolve, invoke, builtin, Sem.run_bind, Sem.run_pure, Result.andThen_ok, List.map_toArray, List.map_cons, List.map_nil, hv, hx, hrun]
  exact hK v' w' r'
end
theorem src_byte (w : World) (c : UInt8) : Src Tryz.prog 1 232 (.slice (some ⟨w.heap.size, 0, none⟩) 1 1) 1 [cellB c] ((w.alloc (.cells #[.int .u8 (c.toNat : Int)] 5)).drew) := by
  refine Src.ofSlice _ Tryz.underlying232 _ 1 1 _ rfl ?_ ?_
  · intro j u hu
    match j, hu with
    | 0, hu => simp at hu; subst hu; simp [Addr.add, cellB]
  · intro u hu; simp at hu; subst hu; rfl
theorem rMark_ok {m l r : List UInt8} {u : Unit} (h : rMark m l = .ok u r) : rMark m l = .ok () r := h
/-- What str carries: the reader's place, the bytes so far. -/
structure StAt (w w' : World) (p : Nat) (s : ByteArray) (j : Nat) (v : Value) (acc : List UInt8) : Prop where
  rd : Rd w' p s j
  kp : Kp w w' p
  row : w'.ownsRow w.heap.size 5 1 v acc.length (acc.map cellB)
theorem StAt.drewN {w w' : World} {p : Nat} {s : ByteArray} {j : Nat} {v : Value} {acc : List UInt8} (h : StAt w w' p s j v acc) (n : Nat) : StAt w (w'.drewN n) p s j v acc := ⟨h.rd.drewN n, h.kp.drewN n, h.row⟩
theorem StAt.far {w w' : World} {p : Nat} {s : ByteArray} {j : Nat} {v : Value} {acc : List UInt8} (h : StAt w w' p s j v acc) (hp : p < w.heap.size) : v.ownBlock ≠ some p := fun e => by have := (h.row.lt p e).1; omega
theorem StAt.set {w w' : World} {p : Nat} {s : ByteArray} {j : Nat} {v : Value} {acc : List UInt8} (h : StAt w w' p s j v acc) (hp : p < w.heap.size) (i : Nat) (hi : i ≤ s.size) : StAt w (w'.setCell ⟨p, 1, none⟩ (.int .i64 (i : Int))) p s i v acc :=
  ⟨h.rd.set i hi, h.kp.set _, ownsRow_setCell_other h.row (a := ⟨p, 1, none⟩) (h.far hp) _⟩
theorem StAt.app {w w' w2 : World} {p : Nat} {s : ByteArray} {j : Nat} {v v' : Value} {acc : List UInt8} {c : UInt8} {o : Obj} (h : StAt w w' p s j v acc) (hp : p < w.heap.size) (ha : Appended w.heap.size 5 (w'.alloc o).drew w2 v v' (acc.length + 1) (acc.map cellB ++ [cellB c])) :
    StAt w w2 p s j v' (acc ++ [c]) := by
  have hg := ha.grown
  have h1 : Below w'.heap.size w' (w'.alloc o).drew := ((Below.refl _ _).alloc (Nat.le_refl _) o).trans ⟨rfl, rfl, rfl, by show _ ≤ (w'.alloc o).heap.size; simp, fun _ _ => rfl⟩
  have hr1 := h.rd.below h1
  have hsz : w.heap.size ≤ w'.heap.size := h.kp.size
  have hs1 : w'.heap.size ≤ (w'.alloc o).drew.heap.size := h1.size
  refine ⟨⟨(hg.block p hr1.lt (fun e => h.far hp e.symm)).trans hr1.box, h.rd.le⟩, ⟨hg.os.trans (h1.os.trans h.kp.os), hg.tape.trans (h1.tape.trans h.kp.tape), hg.output.trans (h1.output.trans h.kp.output), Nat.le_trans hsz (Nat.le_trans hs1 hg.size), fun k hk hkp => ?_⟩, ?_⟩
  · rw [hg.block k (by omega) (fun e => by have := (h.row.lt k e.symm).1; omega), h1.block k (by omega)]
    exact h.kp.block k hk hkp
  · have := ha.row
    simpa using this
theorem chars_q (acc : List UInt8) (c : UInt8) (r : List UInt8) (h : c.toNat = 34) : rChars acc (c :: r) = .ok acc r := by unfold rChars; rw [if_pos h]
theorem chars_bad (acc : List UInt8) (c : UInt8) (r : List UInt8) (h : c.toNat < 32 ∨ 126 < c.toNat) : rChars acc (c :: r) = .fail false (c :: r) := by
  unfold rChars; rw [if_neg (by omega), if_pos h]
theorem chars_esc_end (acc : List UInt8) (c : UInt8) (h : c.toNat = 92) : rChars acc [c] = .fail false [] := by
  unfold rChars; rw [if_neg (by omega), if_neg (by omega), if_pos h]
theorem chars_esc_bad (acc : List UInt8) (c d : UInt8) (r : List UInt8) (h : c.toNat = 92) (hd : isSign d = false) : rChars acc (c :: d :: r) = .fail false (d :: r) := by
  unfold rChars; rw [if_neg (by omega), if_neg (by omega), if_pos h]; simp [hd]
theorem chars_esc (acc : List UInt8) (c d : UInt8) (r : List UInt8) (h : c.toNat = 92) (hd : isSign d = true) : rChars acc (c :: d :: r) = rChars (acc ++ [d]) r := by
  conv => lhs; unfold rChars
  rw [if_neg (by omega), if_neg (by omega), if_pos h]; simp [hd]
theorem chars_go (acc : List UInt8) (c : UInt8) (r : List UInt8) (h1 : c.toNat ≠ 34) (h2 : ¬ (c.toNat < 32 ∨ 126 < c.toNat)) (h3 : c.toNat ≠ 92) : rChars acc (c :: r) = rChars (acc ++ [c]) r := by
  conv => lhs; unfold rChars
  rw [if_neg h1, if_neg h2, if_neg h3]

set_option maxRecDepth 100000 in
set_option maxHeartbeats 4000000 in
theorem str_r (p : Nat) (s : ByteArray) (k : Nat) (w : World) (h : Rd w p s k) (hs : s.size ≤ 1000) :
    Calls Tryz.prog 116 #[.pointer (some ⟨p, 0, none⟩)] w fun e w' => e = .returned (wordV (rStr (dr s k))) ∧ ∃ k', Rd w' p s k' ∧ dr s k' = (rStr (dr s k)).left ∧ Kp w w' p := by
  obtain ⟨i0, hi, hz0, hz1, hz2⟩ := info_parts Tryz.infoU8
  have hpw := h.lt
  go_enter Tryz.func116, Tryz.ntmps116
  go_wp2_with fail
  refine (mark_any p s ⟨#[34]⟩ k _ h hs (by decide)).mono ?_
  rintro e w1 ⟨rfl, b, hR, hb, hK⟩
  have em : (⟨#[34]⟩ : ByteArray).data.toList = [34] := rfl
  rw [em] at hb ⊢
  cases hres : rMark [34] (dr s k) with
  | fail ee r =>
    rw [hres] at hb
    have HW : Hid (rStr (dr s k) = .fail ee r) := by
      show rStr (dr s k) = .fail ee r
      unfold rStr; rw [hres]
    have HR : Hid (Rd w1 p s b ∧ dr s b = r ∧ Kp w w1 p) := ⟨hR, hb, hK⟩
    clear hb hR hK hres
    cases ee
    all_goals
      simp only [errV, ec]
      go_wp2
      go_ret2
      rw [HW.out]
      exact ⟨rfl, b, HR.out.1, HR.out.2.1, HR.out.2.2⟩
  | ok u r =>
    rw [hres] at hb
    have hb' : dr s b = r := hb
    have HW : Hid (rStr (dr s k) = rChars [] (dr s b)) := by
      show rStr (dr s k) = rChars [] (dr s b)
      unfold rStr; rw [hres, hb']
    have hbs := hR.le
    have HS : Hid (StAt w w1 p s b (.slice none 0 0) []) := ⟨hR, hK, World.ownsRow_nil _ _ _ _⟩
    clear hb hb' hR hK hres
    simp only [errV]
    go_wp2_with fail
    go_loopg [5] (s.size - b) (fun kx s5 wr => ∃ (j : Nat) (acc : List UInt8) (a : Option Addr) (c : Nat), s5 = .slice a acc.length c ∧ j ≤ s.size ∧ acc.length ≤ j ∧ kx = s.size - j ∧ Hid (StAt w wr p s j (.slice a acc.length c) acc ∧ rStr (dr s k) = rChars acc (dr s j)))
    case atStart => exact ⟨b, [], none, 0, rfl, hbs, Nat.zero_le _, rfl, (⟨HS.out, HW.out⟩ : _ ∧ _)⟩
    case round =>
      obtain ⟨j, acc, a, c, rfl, hj, hacc, hkx, I⟩ := hrel
      have y0 := I.out.1.rd.c0
      have y1 := I.out.1.rd.c1
      have yf := I.out.1.rd.fz 1
      have yl := I.out.1.rd.lt
      have hle : w.heap.size ≤ wr.heap.size := I.out.1.kp.size
      by_cases hlj : j < s.size
      · have hcons := dr_cons s j hlj
        by_cases hq : (s[j].toNat : Int) = 34
        · have HE : Hid (rStr (dr s k) = .ok acc (dr s (j + 1))) := by
            show rStr (dr s k) = .ok acc (dr s (j + 1))
            rw [I.out.2, hcons]; exact chars_q _ _ _ (by omega)
          clear hcons
          have S2 : ∀ n, Hid (StAt w ((wr.drewN n).setCell ⟨p, 1, none⟩ (.int .i64 ((j + 1 : Nat) : Int))) p s (j + 1) (.slice a acc.length c) acc) := fun n => (I.out.1.drewN n).set hpw (j + 1) (by omega)
          have HS2 : Hid _ := S2
          have hconv : ∀ W, W.ownsRow w.heap.size 5 1 (.slice a acc.length c) acc.length (acc.map cellB) → (convert 232 9 (.slice a acc.length c)).run Tryz.prog W = .ok (.string (ba acc)) W := fun W hrow => by
            rcases hrow.2 with ⟨hv, hn⟩ | ⟨g, cap, cur, hv, hbg, hg, hnc, hcm, hcs, htake⟩
            · have hl : acc = [] := List.eq_nil_of_length_eq_zero hn
              subst hl
              simp at hv
              obtain ⟨rfl, rfl⟩ := hv
              exact run_convert_bytes_nil (P := Tryz.prog) W 232 5 Tryz.underlying232 Tryz.underlying5 0 0 9 Tryz.underlying9
            · simp at hv
              obtain ⟨rfl, rfl⟩ := hv
              exact run_convert_bytes_back (P := Tryz.prog) W 232 9 5 ⟨g, 0, none⟩ c acc Tryz.underlying232 Tryz.underlying5 Tryz.underlying9 (fun i hi => by
                have := hrow.cells (g := g) rfl i (cellB acc[i]) (by simp [hi])
                exact this)
          have HCv : Hid _ := hconv
          clear hconv S2 HS2
          go_wp2_with fail
          go_quiet (fail)
          have I3 : Hid (StAt w (wr.drewN nq) p s j (.slice a acc.length c) acc) := I.out.1.drewN nq
          generalize wr.drewN nq = W3 at I3 ⊢
          clear y0 y1 yf yl hle
          have y0 := I3.out.rd.c0
          have y1 := I3.out.rd.c1
          have yf := I3.out.rd.fz 1
          have yl := I3.out.rd.lt
          go_wp2_with fail
          go_quiet (fail)
          have S4 := (I3.out.drewN nq).set hpw (j + 1) (by omega)
          have hcv := HCv.out _ S4.row
          have S4' : Hid (StAt w ((W3.drewN nq).setCell ⟨p, 1, none⟩ (.int .i64 ((j + 1 : Nat) : Int))) p s (j + 1) (.slice a acc.length c) acc) := S4
          rw [show ((j + 1 : Nat) : Int) = (j : Int) + 1 by omega] at hcv S4'
          clear S4
          go_wp2
          go_ret2
          rw [HE.out]
          exact ⟨rfl, j + 1, S4'.out.rd, rfl, S4'.out.kp⟩
        · have hqb : ((s[j].toNat : Int) == 34) = false := by simpa using hq
          by_cases hbad : (s[j].toNat : Int) < 32 ∨ 126 < (s[j].toNat : Int)
          · have HE : Hid (rStr (dr s k) = .fail false (dr s j)) := by
              show rStr (dr s k) = .fail false (dr s j)
              rw [I.out.2, hcons]; exact chars_bad _ _ _ (by omega)
            clear hcons
            rcases (show (s[j].toNat : Int) < 32 ∨ (¬ (s[j].toNat : Int) < 32 ∧ 126 < (s[j].toNat : Int)) by omega) with h1 | ⟨h1, h2⟩
            all_goals
              clear hbad
              go_wp2_with fail
              go_quiet (fail)
              have I3 : Hid (StAt w (wr.drewN nq) p s j (.slice a acc.length c) acc) := I.out.1.drewN nq
              generalize wr.drewN nq = W3 at I3 ⊢
              clear y0 y1 yf yl hle
              have y0 := I3.out.rd.c0
              have y1 := I3.out.rd.c1
              have yf := I3.out.rd.fz 1
              have yl := I3.out.rd.lt
              go_wp2_with fail
              go_quiet (fail)
              go_wp2
              go_ret2
              rw [HE.out]
              exact ⟨rfl, j, I3.out.rd.drewN _, rfl, I3.out.kp.drewN _⟩
          · have h1 : ¬ (s[j].toNat : Int) < 32 := by omega
            have h2 : ¬ 126 < (s[j].toNat : Int) := by omega
            clear hbad
            by_cases hesc : (s[j].toNat : Int) = 92
            · go_wp2_with fail
              go_quiet (fail)
              have I3 : Hid (StAt w (wr.drewN nq) p s j (.slice a acc.length c) acc) := I.out.1.drewN nq
              generalize wr.drewN nq = W3 at I3 ⊢
              clear y0 y1 yf yl hle
              have y0 := I3.out.rd.c0
              have y1 := I3.out.rd.c1
              have yf := I3.out.rd.fz 1
              have yl := I3.out.rd.lt
              go_wp2_with fail
              go_quiet (fail)
              have S4 : Hid (StAt w ((W3.drewN nq).setCell ⟨p, 1, none⟩ (.int .i64 ((j + 1 : Nat) : Int))) p s (j + 1) (.slice a acc.length c) acc) := (I3.out.drewN nq).set hpw (j + 1) (by omega)
              rw [show ((j + 1 : Nat) : Int) = (j : Int) + 1 by omega] at S4
              go_wp2_with fail
              generalize (W3.drewN nq).setCell ⟨p, 1, none⟩ (.int .i64 ((j : Int) + 1)) = W4 at S4 ⊢
              clear y0 y1 yf yl I3
              obtain ⟨q, hq'⟩ : ∃ q, q = j + 1 := ⟨_, rfl⟩
              have hqi : (j : Int) + 1 = (q : Int) := by omega
              rw [← hq'] at S4
              have y0 := S4.out.rd.c0
              have y1 := S4.out.rd.c1
              have yl := S4.out.rd.lt
              have HQ : Hid (q = j + 1) := hq'
              clear hq' hqi
              have hjq : j < q := by have := HQ.out; omega
              have hqs : q ≤ s.size := by have := HQ.out; omega
              have hac : acc.length ≤ q := by omega
              by_cases hend : q = s.size
              · have HE : Hid (rStr (dr s k) = .fail false []) := by
                  show rStr (dr s k) = .fail false []
                  rw [I.out.2, hcons, ← HQ.out, dr_end s q (by omega)]; exact chars_esc_end _ _ (by omega)
                clear hcons
                subst hend
                go_quiet (fail)
                go_wp2
                go_ret2
                rw [HE.out]
                exact ⟨rfl, s.size, S4.out.rd.drewN _, dr_end _ _ (Nat.le_refl _), S4.out.kp.drewN _⟩
              · have hlq : q < s.size := by omega
                have hne : ((q : Int) == (s.size : Int)) = false := by simp; omega
                cases hsg : isSign s[q] with
                | false =>
                  have HE : Hid (rStr (dr s k) = .fail false (dr s q)) := by
                    show rStr (dr s k) = .fail false (dr s q)
                    rw [I.out.2, hcons, ← HQ.out, dr_cons s q hlq]; exact chars_esc_bad _ _ _ _ (by omega) hsg
                  have HSg : Hid (isSign s[q] = false) := hsg
                  clear hcons hsg
                  go_quiet ((go_at_call 118; exact Calls.quiet_of_same (sign_is _ _ HSg.out)))
                  go_wp2
                  go_ret2
                  rw [HE.out]
                  exact ⟨rfl, q, S4.out.rd.drewN _, rfl, S4.out.kp.drewN _⟩
                | true =>
                  have HE : Hid (rStr (dr s k) = rChars (acc ++ [s[q]]) (dr s (q + 1))) := by
                    show rStr (dr s k) = rChars (acc ++ [s[q]]) (dr s (q + 1))
                    rw [I.out.2, hcons, ← HQ.out, dr_cons s q hlq]; exact chars_esc _ _ _ _ (by omega) hsg
                  have HSg : Hid (isSign s[q] = true) := hsg
                  clear hcons hsg
                  go_quiet ((go_at_call 118; exact Calls.quiet_of_same (sign_is _ _ HSg.out)))
                  go_wp2_with fail
                  have ST : Hid (StAt w (W4.drewN nq) p s q (.slice a acc.length c) acc) := S4.out.drewN _
                  generalize W4.drewN nq = W5 at ST ⊢
                  clear y0 y1 yl
                  have z0 := ST.out.rd.c0
                  have z1 := ST.out.rd.c1
                  have zl := ST.out.rd.lt
                  have zh : w.heap.size ≤ W5.heap.size := ST.out.kp.size
                  go_region_law
                    (refine step_own_src1 _ (by rfl) _ _ 232 232 (by rfl) w.heap.size 5 i0 _ 1 Tryz.underlying232 hi hz0 hz1 hz2 rfl _ _ _ (by rfl) ((ST.out.row.alloc _).drew) _ 1 _ (by rfl) (src_byte W5 s[q]) (by unfold maxLen; omega) (by omega) (by show w.heap.size ≤ (W5.alloc _).heap.size; simp; omega) ?_
                     intro v2 w5 ha
                     have S5 : Hid (StAt w w5 p s q v2 (acc ++ [s[q]])) := ST.out.app hpw ha
                     obtain ⟨a2, c2, hv2⟩ := ha.shape
                     subst hv2
                     have q1 := S5.out.rd.c1
                     have qf := S5.out.rd.fz 1
                     have ql := S5.out.rd.lt
                     clear ha)
                  all_goals
                    have S6 : Hid (StAt w (w5.setCell ⟨p, 1, none⟩ (.int .i64 ((q + 1 : Nat) : Int))) p s (q + 1) (.slice a2 (acc.length + 1) c2) (acc ++ [s[q]])) := S5.out.set hpw (q + 1) (by omega)
                    go_wp2
                    go_roundg (s.size - (q + 1))
                    case measure => omega
                    case rel => exact ⟨q + 1, acc ++ [s[q]], a2, c2, by simp, by omega, by simp; omega, rfl, (⟨by simpa using S6.out, HE.out⟩ : _ ∧ _)⟩
            · have heb : ((s[j].toNat : Int) == 92) = false := by simpa using hesc
              have HE : Hid (rStr (dr s k) = rChars (acc ++ [s[j]]) (dr s (j + 1))) := by
                show rStr (dr s k) = rChars (acc ++ [s[j]]) (dr s (j + 1))
                rw [I.out.2, hcons]; exact chars_go _ _ _ (by omega) (by omega) (by omega)
              clear hcons
              go_wp2_with fail
              go_quiet (fail)
              have I3 : Hid (StAt w (wr.drewN nq) p s j (.slice a acc.length c) acc) := I.out.1.drewN nq
              generalize wr.drewN nq = W3 at I3 ⊢
              clear y0 y1 yf yl hle
              have y0 := I3.out.rd.c0
              have y1 := I3.out.rd.c1
              have yf := I3.out.rd.fz 1
              have yl := I3.out.rd.lt
              go_wp2_with fail
              go_quiet (fail)
              go_wp2_with fail
              have ST : Hid (StAt w (W3.drewN nq) p s j (.slice a acc.length c) acc) := I3.out.drewN _
              generalize W3.drewN nq = W5 at ST ⊢
              clear y0 y1 yf yl
              have z0 := ST.out.rd.c0
              have z1 := ST.out.rd.c1
              have zl := ST.out.rd.lt
              have zh : w.heap.size ≤ W5.heap.size := ST.out.kp.size
              go_region_law
                (refine step_own_src1 _ (by rfl) _ _ 232 232 (by rfl) w.heap.size 5 i0 _ 1 Tryz.underlying232 hi hz0 hz1 hz2 rfl _ _ _ (by rfl) ((ST.out.row.alloc _).drew) _ 1 _ (by rfl) (src_byte W5 s[j]) (by unfold maxLen; omega) (by omega) (by show w.heap.size ≤ (W5.alloc _).heap.size; simp; omega) ?_
                 intro v2 w5 ha
                 have S5 : Hid (StAt w w5 p s j v2 (acc ++ [s[j]])) := ST.out.app hpw ha
                 obtain ⟨a2, c2, hv2⟩ := ha.shape
                 subst hv2
                 have q1 := S5.out.rd.c1
                 have qf := S5.out.rd.fz 1
                 have ql := S5.out.rd.lt
                 clear ha)
              all_goals
                have S6 : Hid (StAt w (w5.setCell ⟨p, 1, none⟩ (.int .i64 ((j + 1 : Nat) : Int))) p s (j + 1) (.slice a2 (acc.length + 1) c2) (acc ++ [s[j]])) := S5.out.set hpw (j + 1) (by omega)
                go_wp2
                go_roundg (s.size - (j + 1))
                case measure => omega
                case rel => exact ⟨j + 1, acc ++ [s[j]], a2, c2, by simp, by omega, by simp; omega, rfl, (⟨by simpa using S6.out, HE.out⟩ : _ ∧ _)⟩
      · obtain rfl : j = s.size := by omega
        have HE : Hid (rStr (dr s k) = .fail true []) := by
          have e := I.out.2
          rw [dr_end s _ (Nat.le_refl _)] at e
          show rStr (dr s k) = .fail true []
          rw [e]; rfl
        go_wp2_with fail
        go_quiet (fail)
        go_wp2
        go_ret2
        rw [HE.out]
        exact ⟨rfl, s.size, I.out.1.rd.drewN _, dr_end _ _ (Nat.le_refl _), I.out.1.kp.drewN _⟩
end Go.Proofs.YtkncpojijfeahaaGreatDoor
