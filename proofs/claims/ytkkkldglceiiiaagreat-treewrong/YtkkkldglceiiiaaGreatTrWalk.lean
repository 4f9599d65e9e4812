/- tree.growth: walk; tree.Of. -/
import Derived.Test.YtkkkldglceiiiaaGreatTrTree
import Derived.Test.YtkkkldglceiiiaaGreatHash
import Derived.Deep.RegionHeld3
namespace Go.Proofs.YtkkkldglceiiiaaGreat
open Go.ChangeShapes Go.WideShapes Go.ChangeAt Go.RowKit Go.Deep
open Go.ChangeMaps (setBlock)
set_option linter.unusedVariables false

/-- A code as an error. -/
def codeV (c : Int) : Value := if c = 0 then .nilIface else .iface 43 (.int .i64 c)
/-- What a Walker answers. -/
def nxV : Option Int → Value
  | some v => .tuple #[.int .i64 v, .nilIface]
  | none => .tuple #[.int .i64 (-1), .iface 43 (.int .i64 6)]
/-- A Walker: who is next. -/
structure Wk (w0 : World) (T : TypeId) (v : Value) (K : Nat) (x : Int) (nx : Int → Option Int) : Prop where
  mth : ∀ w, (method 274 T v "Next").run Tryz.prog w = .ok (K, v) w
  ent : ∀ (args : Array Value) w, (callFunc K args).run Tryz.prog w = .ok (.enter K args) w
  call : ∀ W n, Below w0.heap.size w0 W → Calls Tryz.prog K #[v, .int .i64 n, .int .u64 x] W fun e w' => e = .returned (nxV (nx n)) ∧ Below W.heap.size W w'
/-- A tree that is being made, in memory. -/
structure GwAt (w : World) (q g : Nat) (t : Tr) (wk : Value) (x : Int) : Prop where
  box : w.heap[q]? = some (.cells #[.int .i64 t.root, .map (some g), wk, .int .u64 x, .bool (t.root != -1)] 78 (0, 0))
  up : UpAt w g t.up
theorem GwAt.ne {w : World} {q g : Nat} {t : Tr} {wk : Value} {x : Int} (h : GwAt w q g t wk x) : q ≠ g := fun e => by
  obtain ⟨_, es, c, hb, _⟩ := h.up
  have := h.box
  rw [e, hb] at this
  cases this
theorem GwAt.below {w w' : World} {q g : Nat} {t : Tr} {wk : Value} {x : Int} (h : GwAt w q g t wk x) (hb : Below w.heap.size w w') : GwAt w' q g t wk x :=
  ⟨(hb.block _ (lt_of_block h.box)).trans h.box, h.up.below hb⟩
theorem GwAt.cells {w : World} {q g : Nat} {t : Tr} {wk : Value} {x : Int} (h : GwAt w q g t wk x) :
    w.cell? ⟨q, 0, none⟩ = some (.int .i64 t.root) ∧ w.cell? ⟨q, 1, none⟩ = some (.map (some g)) ∧ w.cell? ⟨q, 2, none⟩ = some wk ∧ w.cell? ⟨q, 3, none⟩ = some (.int .u64 x) ∧ w.cell? ⟨q, 4, none⟩ = some (.bool (t.root != -1)) ∧ q < w.heap.size ∧ ∀ o, w.frozen? ⟨q, o, none⟩ = false := by
  have hb := h.box
  refine ⟨by simp [World.cell?, hb], by simp [World.cell?, hb], by simp [World.cell?, hb], by simp [World.cell?, hb], by simp [World.cell?, hb], lt_of_block hb, fun o => by simp [World.frozen?, hb]⟩
theorem setCell_block {w : World} {q : Nat} {cs : Array Value} {T : TypeId} (h : w.heap[q]? = some (.cells cs T (0, 0))) (o : Nat) (v : Value) : (w.setCell ⟨q, o, none⟩ v).heap[q]? = some (.cells (cs.setIfInBounds o v) T (0, 0)) := by
  simp [World.setCell, Array.getElem?_modify, h]
theorem GwAt.rooted {w : World} {q g : Nat} {t : Tr} {wk : Value} {x : Int} (h : GwAt w q g t wk x) (n : Int) (hn : n ≠ -1) :
    GwAt ((w.setCell ⟨q, 0, none⟩ (.int .i64 n)).setCell ⟨q, 4, none⟩ (.bool true)) q g ⟨n, t.up⟩ wk x := by
  have hb := h.box
  have hq := lt_of_block hb
  refine ⟨?_, h.up.of_block ?_⟩
  · have e : (n != -1) = true := by simpa using hn
    have b1 := setCell_block hb 0 (.int .i64 n)
    have b2 := setCell_block b1 4 (.bool true)
    rw [e]
    simpa using b2
  · rw [Below.heap_setCell _ _ _ _ (Ne.symm h.ne), Below.heap_setCell _ _ _ _ (Ne.symm h.ne)]

theorem has_any (q g : Nat) (t : Tr) (wk : Value) (x n : Int) (w : World) (h : GwAt w q g t wk x) :
    Calls Tryz.prog 45 #[.pointer (some ⟨q, 0, none⟩), .int .i64 n] w fun e w' => e = .returned (.bool (t.has n)) ∧ Below w.heap.size w w' := by
  have H : Hid (GwAt w q g t wk x) := h
  obtain ⟨c0, c1, c2, c3, c4, cl, cf⟩ := h.cells
  clear h c2 c3 cf
  obtain ⟨root, up⟩ := t
  simp only at c0 c4
  cases hq : (lookI up n).isSome with
  | true =>
    have HB : Hid ((lookI up n).isSome = true ∧ (⟨root, up⟩ : Tr).has n = true) := ⟨hq, by unfold Tr.has Tr.tells; simp only; rw [hq]; rfl⟩
    clear hq
    go_enter Tryz.func45, Tryz.ntmps45
    go_wp2_with (go_at_call 28; refine (tells_any root g up n _ (H.out.up)).mono ?_; rintro e w2 ⟨rfl, b2⟩; rw [HB.out.1])
    go_ret
    exact ⟨ret_b HB.out.2.symm, b2⟩
  | false =>
    have HB : Hid ((lookI up n).isSome = false ∧ (⟨root, up⟩ : Tr).has n = (root != -1 && n == root)) := ⟨hq, by unfold Tr.has Tr.tells; simp only; rw [hq]; rfl⟩
    clear hq
    by_cases hr : root = -1
    · have e1 : (root != -1) = false := by simpa using hr
      rw [e1] at c4
      have HC : Hid ((⟨root, up⟩ : Tr).has n = false) := by show Tr.has _ n = false; rw [HB.out.2, e1]; rfl
      clear hr e1
      go_enter Tryz.func45, Tryz.ntmps45
      go_wp2_with (go_at_call 28; refine (tells_any root g up n _ (H.out.up)).mono ?_; rintro e w2 ⟨rfl, b2⟩; rw [HB.out.1]
                   have d4 := cell_grown c4 b2)
      go_ret
      exact ⟨ret_b HC.out.symm, b2⟩
    · have e1 : (root != -1) = true := by simpa using hr
      rw [e1] at c4
      have HC : Hid ((⟨root, up⟩ : Tr).has n = (n == root)) := by show Tr.has _ n = _; rw [HB.out.2, e1]; rfl
      clear hr e1
      go_enter Tryz.func45, Tryz.ntmps45
      go_wp2_with (go_at_call 28; refine (tells_any root g up n _ (H.out.up)).mono ?_; rintro e w2 ⟨rfl, b2⟩; rw [HB.out.1]
                   have d4 := cell_grown c4 b2
                   have d0 := cell_grown c0 b2)
      go_ret
      exact ⟨ret_b HC.out.symm, b2⟩

theorem root_no (q g : Nat) (t : Tr) (wk : Value) (x n : Int) (w : World) (h : GwAt w q g t wk x) (hr : t.root ≠ -1) :
    Calls Tryz.prog 46 #[.pointer (some ⟨q, 0, none⟩), .int .i64 n] w fun e w' => e = .returned (.iface 43 (.int .i64 5)) ∧ w' = w := by
  obtain ⟨c0, c1, c2, c3, c4, cl, cf⟩ := h.cells
  have e1 : (t.root != -1) = true := by simpa using hr
  rw [e1] at c4
  clear h c0 c1 c2 c3 cf e1 hr
  go_enter Tryz.func46, Tryz.ntmps46
  go_wp2
  go_ret
  exact ⟨rfl, rfl⟩
theorem root_yes (q g : Nat) (t : Tr) (wk : Value) (x n : Int) (w : World) (h : GwAt w q g t wk x) (hr : t.root = -1) (hn : n ≠ -1) :
    Calls Tryz.prog 46 #[.pointer (some ⟨q, 0, none⟩), .int .i64 n] w fun e w' => e = .returned .nilIface ∧ GwAt w' q g ⟨n, t.up⟩ wk x ∧ ∀ B, B ≤ q → Below B w w' := by
  have HR : Hid (GwAt ((w.setCell ⟨q, 0, none⟩ (.int .i64 n)).setCell ⟨q, 4, none⟩ (.bool true)) q g ⟨n, t.up⟩ wk x) := h.rooted n hn
  obtain ⟨c0, c1, c2, c3, c4, cl, cf⟩ := h.cells
  have e1 : (t.root != -1) = false := by simpa using hr
  rw [e1] at c4
  have f0 := cf 0
  have f4 := cf 4
  have b1 := setCell_block h.box 0 (.int .i64 n)
  have d4 : (w.setCell ⟨q, 0, none⟩ (.int .i64 n)).cell? ⟨q, 4, none⟩ = some (.bool false) := by simp [World.cell?, b1, e1]
  have g4 : (w.setCell ⟨q, 0, none⟩ (.int .i64 n)).frozen? ⟨q, 4, none⟩ = false := by simp [World.frozen?, b1]
  clear h c1 c2 c3 cf e1 hr b1
  go_enter Tryz.func46, Tryz.ntmps46
  go_wp2
  go_ret
  exact ⟨rfl, HR.out, fun B hB => ((Below.refl B w).setCell (p := ⟨q, 0, none⟩) hB _).setCell (p := ⟨q, 4, none⟩) hB _⟩

set_option maxRecDepth 100000 in
set_option maxHeartbeats 4000000 in
theorem walk_any (w0 w : World) (q g : Nat) (T : TypeId) (v : Value) (K : Nat) (x : Int) (nx : Int → Option Int) (t : Tr) (n : Int) (hk : Wk w0 T v K x nx) (h : GwAt w q g t (.iface T v) x) (hB : Below w0.heap.size w0 w) (hq : w0.heap.size ≤ q) (hg : w0.heap.size ≤ g) (hnx : nx (-1) = none) :
    Calls Tryz.prog 36 #[.pointer (some ⟨q, 0, none⟩), .int .i64 n] w fun e w' => e = .returned (codeV (walkT nx 66 t n).1) ∧ GwAt w' q g (walkT nx 66 t n).2 (.iface T v) x ∧ Below w0.heap.size w0 w' := by
  have HK : Hid (Wk w0 T v K x nx ∧ w0.heap.size ≤ q ∧ w0.heap.size ≤ g ∧ nx (-1) = none) := ⟨hk, hq, hg, hnx⟩
  have hm := hk.mth
  have he := hk.ent
  have H : Hid (GwAt w q g t (.iface T v) x ∧ Below w0.heap.size w0 w) := ⟨h, hB⟩
  clear hk h hB hq hg hnx
  go_enter Tryz.func36, Tryz.ntmps36
  go_wp2
  go_loopg [1, 7] 66 (fun kx nv s wr => ∃ (j : Nat) (m : Int) (t' : Tr), s = .int .i64 j ∧ nv = .int .i64 m ∧ j ≤ 66 ∧ kx = 66 - j ∧ Hid (GwAt wr q g t' (.iface T v) x ∧ Below w0.heap.size w0 wr ∧ walkT nx 66 t n = walkT nx (66 - j) t' m))
  case atStart => exact ⟨0, n, t, rfl, rfl, Nat.zero_le _, rfl, ⟨H.out.1, H.out.2, rfl⟩⟩
  case round =>
    obtain ⟨j, m, t', rfl, rfl, hj, rfl, HB⟩ := hrel
    by_cases hlt : j < 66
    · have hltI : (j : Int) < 66 := by omega
      have HS : Hid (walkT nx 66 t n = if t'.has m then (0, t') else match nx m with
          | none => (6, t')
          | some v => if v = m then (if t'.root = -1 then (0, ⟨m, t'.up⟩) else (5, t')) else walkT nx (66 - (j + 1)) ⟨t'.root, t'.up ++ [(m, v)]⟩ v) := by
        have := HB.out.2.2
        rw [show 66 - j = (66 - (j + 1)) + 1 by omega] at this
        exact this
      cases hh : t'.has m with
      | true =>
        have HE : Hid (walkT nx 66 t n = (0, t') ∧ t'.has m = true) := ⟨by have := HS.out; rw [hh] at this; exact this, hh⟩
        clear hh HS hm
        go_wp2_with (go_at_call 45; refine (has_any q g t' _ x m _ HB.out.1).mono ?_; rintro e w2 ⟨rfl, b2⟩; rw [HE.out.2])
        go_ret
        rw [HE.out.1]
        exact ⟨by simp [codeV], HB.out.1.below b2, HB.out.2.1.trans (b2.mono HB.out.2.1.size)⟩
      | false =>
        have HE : Hid (t'.has m = false) := hh
        have HS2 := HS.out
        rw [hh] at HS2
        simp only [Bool.false_eq_true, if_false] at HS2
        have HS3 : Hid _ := HS2
        clear hh HS HS2
        go_wp2_with fail
        refine (has_any q g t' _ x m _ HB.out.1).mono ?_
        rintro e w2 ⟨rfl, b2⟩
        rw [HE.out]
        have H2 : Hid (GwAt w2 q g t' (.iface T v) x ∧ Below w0.heap.size w0 w2) := ⟨HB.out.1.below b2, HB.out.2.1.trans (b2.mono HB.out.2.1.size)⟩
        clear b2
        obtain ⟨c0, c1, c2, c3, c4, cl, cf⟩ := H2.out.1.cells
        clear c0 c1 c4 cf
        cases hv : nx m with
        | none =>
          have HV : Hid (nx m = none ∧ walkT nx 66 t n = (6, t')) := ⟨hv, by have := HS3.out; rw [hv] at this; exact this⟩
          have HCL : Hid (∀ W, Below w2.heap.size w2 W → Calls Tryz.prog K #[v, .int .i64 m, .int .u64 x] W fun e w' => e = .returned (.tuple #[.int .i64 (-1), .iface 43 (.int .i64 6)]) ∧ Below w2.heap.size w2 w') := fun W hW => (HK.out.1.call W m (H2.out.2.trans (hW.mono H2.out.2.size))).mono (fun e w' z => ⟨by rw [z.1, HV.out.1]; rfl, hW.trans (z.2.mono hW.size)⟩)
          clear hv HS3
          go_upto_region 5 with fail
          go_cut [5, 6] (fun a b wx => a = .int .i64 (-1) ∧ b = .iface 43 (.int .i64 6) ∧ Hid (Below w2.heap.size w2 wx))
          case first =>
            go_region_held3 (fun W' => W'.cell? ⟨q, 2, none⟩ = some (.iface T v) ∧ W'.cell? ⟨q, 3, none⟩ = some (.int .u64 x))
              (first
                | go_keep
                | assumption)
              (first
                | (refine Calls.mono (HCL.out _ ?_) ?_; exact ⟨rfl, rfl, rfl, Nat.le_refl _, fun _ _ => rfl⟩; rintro e wO ⟨rfl, bO⟩
                   have BO : Hid (Below w2.heap.size w2 wO) := bO
                   have z2 := cell_grown c2 bO
                   have z3 := cell_grown c3 bO
                   have zl := cell_block z2
                   clear bO))
            all_goals
              go_wp2
              go_meet
              exact ⟨rfl, rfl, BO⟩
          case rest =>
            rename World => W3
            obtain ⟨rfl, rfl, HC⟩ := hcut
            go_wp2
            go_ret
            rw [HV.out.2]
            exact ⟨by simp [codeV], H2.out.1.below HC.out, H2.out.2.trans (HC.out.mono H2.out.2.size)⟩
        | some y =>
          have HV : Hid (nx m = some y ∧ walkT nx 66 t n = if y = m then (if t'.root = -1 then (0, ⟨m, t'.up⟩) else (5, t')) else walkT nx (66 - (j + 1)) ⟨t'.root, t'.up ++ [(m, y)]⟩ y) := ⟨hv, by have := HS3.out; rw [hv] at this; exact this⟩
          have HCL : Hid (∀ W, Below w2.heap.size w2 W → Calls Tryz.prog K #[v, .int .i64 m, .int .u64 x] W fun e w' => e = .returned (.tuple #[.int .i64 y, .nilIface]) ∧ Below w2.heap.size w2 w') := fun W hW => (HK.out.1.call W m (H2.out.2.trans (hW.mono H2.out.2.size))).mono (fun e w' z => ⟨by rw [z.1, HV.out.1]; rfl, hW.trans (z.2.mono hW.size)⟩)
          clear hv HS3
          go_upto_region 5 with fail
          go_cut [5, 6] (fun a b wx => a = .int .i64 y ∧ b = .nilIface ∧ Hid (Below w2.heap.size w2 wx))
          case first =>
            go_region_held3 (fun W' => W'.cell? ⟨q, 2, none⟩ = some (.iface T v) ∧ W'.cell? ⟨q, 3, none⟩ = some (.int .u64 x))
              (first
                | go_keep
                | assumption)
              (first
                | (refine Calls.mono (HCL.out _ ?_) ?_; exact ⟨rfl, rfl, rfl, Nat.le_refl _, fun _ _ => rfl⟩; rintro e wO ⟨rfl, bO⟩
                   have BO : Hid (Below w2.heap.size w2 wO) := bO
                   have z2 := cell_grown c2 bO
                   have z3 := cell_grown c3 bO
                   have zl := cell_block z2
                   clear bO))
            all_goals
              go_wp2
              go_meet
              exact ⟨rfl, rfl, BO⟩
          case rest =>
            rename World => W3
            obtain ⟨rfl, rfl, HC⟩ := hcut
            have H3 : Hid (GwAt W3 q g t' (.iface T v) x ∧ Below w0.heap.size w0 W3) := ⟨H2.out.1.below HC.out, H2.out.2.trans (HC.out.mono H2.out.2.size)⟩
            clear HC c2 c3 cl hm
            by_cases hy : y = m
            · have e1 : (y == m) = true := by simpa using hy
              have hmn : m ≠ -1 := fun e => by have := HV.out.1; rw [e, HK.out.2.2.2] at this; cases this
              by_cases hr : t'.root = -1
              · have HF : Hid (walkT nx 66 t n = (0, ⟨m, t'.up⟩)) := by have := HV.out.2; rw [if_pos hy, if_pos hr] at this; exact this
                have HRt : Hid (t'.root = -1 ∧ m ≠ -1) := ⟨hr, hmn⟩
                clear hr hy hmn
                go_wp2_with (go_at_call 46; refine (root_yes q g t' _ x m _ H3.out.1 HRt.out.1 HRt.out.2).mono ?_; rintro e w5 ⟨rfl, h5, b5⟩)
                go_ret
                rw [HF.out]
                exact ⟨by simp [codeV], h5, H3.out.2.trans (b5 _ HK.out.2.1)⟩
              · have HF : Hid (walkT nx 66 t n = (5, t')) := by have := HV.out.2; rw [if_pos hy, if_neg hr] at this; exact this
                have HRt : Hid (t'.root ≠ -1) := hr
                clear hr hy hmn
                go_wp2_with (go_at_call 46; refine (root_no q g t' _ x m _ H3.out.1 HRt.out).mono ?_; rintro e w5 ⟨rfl, hw5⟩; subst w5)
                go_ret
                rw [HF.out]
                exact ⟨by simp [codeV], H3.out.1, H3.out.2⟩
            · have e1 : (y == m) = false := by simpa using hy
              have HF : Hid (walkT nx 66 t n = walkT nx (66 - (j + 1)) ⟨t'.root, t'.up ++ [(m, y)]⟩ y) := by have := HV.out.2; rw [if_neg hy] at this; exact this
              clear hy
              obtain ⟨o, hput, hup⟩ := H3.out.1.up.put (P := Tryz.prog) key_int Tryz.underlying38 (k := m) (by rw [look_upV, (Tr.has_no HE.out).1]; rfl) (.int .i64 y)
              rw [upV_snoc] at hup
              obtain ⟨d0, d1, d2, d3, d4, dl, df⟩ := H3.out.1.cells
              have H4 : Hid (GwAt (setBlock W3 g o) q g ⟨t'.root, t'.up ++ [(m, y)]⟩ (.iface T v) x ∧ Below w0.heap.size w0 (setBlock W3 g o)) := by
                refine ⟨⟨by rw [setB_other H3.out.1.ne]; exact H3.out.1.box, hup⟩, ?_⟩
                have b := H3.out.2
                exact ⟨b.os, b.tape, b.output, by rw [setB_size]; exact b.size, fun k hk => (setB_other (by have := HK.out.2.2.1; omega) o).trans (b.block k hk)⟩
              obtain ⟨W4, hW4⟩ : ∃ W4, W4 = setBlock W3 g o := ⟨_, rfl⟩
              rw [← hW4] at hput H4
              simp only [kvI] at hput
              clear hW4 hup d0 d2 d3 d4 df
              go_wp2
              go_roundg (66 - (j + 1))
              case measure => omega
              case rel => exact ⟨j + 1, y, ⟨t'.root, t'.up ++ [(m, y)]⟩, by go_num, rfl, by omega, rfl, ⟨H4.out.1, H4.out.2, HF.out⟩⟩
    · obtain rfl : j = 66 := by omega
      have HE : Hid (walkT nx 66 t n = (0, t')) := HB.out.2.2
      clear hm
      go_wp2
      go_ret
      rw [HE.out]
      exact ⟨by simp [codeV], HB.out.1, HB.out.2.1⟩
end Go.Proofs.YtkkkldglceiiiaaGreat
