/- A ring, and beside it a list of one's own that grows. -/
import Derived.Test.YtmajlldfiiokoaaGreatDoorChAll
import Derived.Test.YtmajlldfiiokoaaGreatDoorOwnSrc
import Derived.Test.YtmajlldfiiokoaaGreatDoorJoinPeSame
import Derived.Test.YtmajlldfiiokoaaGreatDoorShelf
import Derived.Deep.QuietTactic
import Derived.BigQuiet
set_option linter.unnecessarySimpa false
namespace Go.Proofs.YtmajlldfiiokoaaGreatDoor
open Go.ChangeShapes Go.WideShapes Go.ChangeAt Go.RowKit Go.Deep
set_option linter.unusedVariables false

/-- What grows beside the ring, in a block that its lists keep clear of, or in a new one. -/
theorem RingAt.grow {w w' : World} {r gp gk : Nat} {R : Rg} {og : Option Nat} (h : RingAt w r gp gk R) (hl : ∀ k p, R.kn k = some p → p.succ.length = 3) (hs : w.heap.size ≤ w'.heap.size)
    (hb : ∀ b, b < w.heap.size → og ≠ some b → w'.heap[b]? = w.heap[b]?) (hg : ∀ g, og = some g → R.cl g ∧ r ≠ g ∧ gp ≠ g ∧ gk ≠ g) (D : Nat → Prop) (hD : ∀ b, D b → (R.cl b ∨ w.heap.size ≤ b) ∧ b < w'.heap.size) : RingAt w' r gp gk (R.withCl D) := by
  obtain ⟨mp, hp, hp'⟩ := h.places
  obtain ⟨mk, hk, hk'⟩ := h.known
  have hlt := h.lt
  have n1 : og ≠ some r := fun e => (hg r e).2.1 rfl
  have n2 : og ≠ some gp := fun e => (hg gp e).2.2.1 rfl
  have n3 : og ≠ some gk := fun e => (hg gk e).2.2.2 rfl
  refine ⟨(hb r hlt.1 n1).trans h.box, h.ne, ⟨mp, hp.of_block (hb gp hlt.2.1 n2), hp'⟩, ⟨mk, hk.of_block (hb gk hlt.2.2 n3), fun k => ?_⟩, h.ids, fun b e => (hD b e).2⟩
  have q := hk' k
  show KnOk w' D (R.kn k) (look mk k)
  cases hp : R.kn k with
  | none =>
    cases hv : look mk k with
    | none => exact trivial
    | some v => rw [hp, hv] at q; exact q.elim
  | some p =>
    cases hv : look mk k with
    | none => rw [hp, hv] at q; exact q.elim
    | some v =>
      rw [hp, hv] at q
      obtain ⟨a, len, cap, e, hpe, hd⟩ := q
      have h3 := hl k p hp
      have h4 := hpe.row.1
      rcases hpe.row.2.2 with h0 | ⟨b, o, ha, hlt, hc⟩
      · omega
      · have hbg : og ≠ some b := fun e => hd _ ha (hg b e).1
        refine ⟨a, len, cap, e, ⟨hpe.hid, hpe.hpred, ⟨hpe.row.1, hpe.row.2.1, .inr ⟨b, o, ha, Nat.lt_of_lt_of_le hlt hs, fun i hi => ⟨(hc i hi).1, fun j hj => ?_⟩⟩⟩, hpe.hcap, hpe.hmost, hpe.hnil⟩, fun x hx hcl => ?_⟩
        · rw [World.cell?_of_block (hb b hlt hbg)]
          exact (hc i hi).2 j hj
        · rw [ha] at hx
          cases hx
          rcases (hD b hcl).1 with q | q
          · exact hd _ ha q
          · omega

structure Rw (w wr : World) (B r gp gk : Nat) (gv : Value) (G : List Int) (R : Rg) : Prop where
  rn : Rn w wr r gp gk R
  row : wr.ownsRow B 3 1 gv G.length (G.map cellI)
  cl : ∀ g, gv.ownBlock = some g → R.cl g
  lr : r < B
  lp : gp < B
  lk : gk < B
  lB : B ≤ wr.heap.size
theorem own_block {w : World} {B n : Nat} {e : TypeId} {v : Value} {xs : List Value} (h : w.ownsRow B e 1 v n xs) {g : Nat} (hg : v.ownBlock = some g) : B ≤ g := by
  rcases h.2 with ⟨h0, h1⟩ | ⟨k, cap, cur, hv, hb, _⟩
  · rw [h0] at hg; simp [Value.ownBlock] at hg
  · rw [hv] at hg; simp [Value.ownBlock] at hg; omega
theorem Rw.below {w wr w' : World} {B r gp gk : Nat} {gv : Value} {G : List Int} {R : Rg} (h : Rw w wr B r gp gk gv G R) (hb : Below wr.heap.size wr w') : Rw w w' B r gp gk gv G R :=
  ⟨h.rn.below hb, h.row.kept (row := none) ⟨hb.os, hb.tape, hb.output, hb.size, fun b hb1 _ => hb.block b hb1⟩ (by cases HH : Value.ownBlock _ <;> simp), h.cl, h.lr, h.lp, h.lk, Nat.le_trans h.lB hb.size⟩
theorem own_int {w : World} {B n : Nat} {a : Option Addr} {c : Nat} {l : List Int} (h : w.ownsRow B 3 1 (.slice a n c) n (l.map cellI)) {i : Nat} (hi : i < n) : ∃ g, a = some ⟨g, 0, none⟩ ∧ B ≤ g ∧ g < w.heap.size ∧ w.cell? ⟨g, i, none⟩ = some (.int .i64 (l.getD i 0)) := by
  have hl : l.length = n := by have := h.1; simpa using this
  rcases h.2 with ⟨h0, h1⟩ | ⟨g, cap, cur, hv, hb, hg, hnc, _⟩
  · omega
  · simp at hv
    obtain ⟨rfl, rfl⟩ := hv
    have hil : i < l.length := by omega
    have e := h.cells (g := g) rfl i (cellI l[i]) (by simp [hil])
    have ea : (⟨g, 0, none⟩ : Addr).add i = ⟨g, i, none⟩ := by unfold Addr.add; split <;> simp_all
    rw [ea] at e
    refine ⟨g, rfl, hb, cell_block e, ?_⟩
    rw [e]
    simp [List.getD, hil, cellI]
theorem own_kp {w w' : World} {B gp gk n : Nat} {e : TypeId} {v : Value} {xs : List Value} (h : w.ownsRow B e 1 v n xs) (k : Kp w w' gp gk) (h1 : gp < B) (h2 : gk < B) : w'.ownsRow B e 1 v n xs := by
  refine ⟨h.1, ?_⟩
  rcases h.2 with h0 | ⟨g, cap, cur, hv, hb, hg, r⟩
  · exact .inl h0
  · have hlt : g < w.heap.size := by
      rcases Nat.lt_or_ge g w.heap.size with q | q
      · exact q
      · rw [Array.getElem?_eq_none q] at hg; cases hg
    exact .inr ⟨g, cap, cur, hv, hb, (k.block g hlt (by omega) (by omega)).trans hg, r⟩
theorem Rw.step {w wr w' : World} {B r gp gk : Nat} {gv : Value} {G : List Int} {R R' : Rg} (h : Rw w wr B r gp gk gv G R) (hr : RingAt w' r gp gk R') (hi : Inv R') (k : Kp wr w' gp gk) (hc : R'.cl = R.cl) : Rw w w' B r gp gk gv G R' :=
  ⟨h.rn.step hr hi k, own_kp h.row k h.lp h.lk, by rw [hc]; exact h.cl, h.lr, h.lp, h.lk, Nat.le_trans h.lB k.size⟩
theorem Rw.append {w wr w' : World} {B r gp gk : Nat} {gv gv' : Value} {G : List Int} {R : Rg} {n : Int} (h : Rw w wr B r gp gk gv G R) (ha : Appended B 3 wr w' gv gv' (G.length + 1) (G.map cellI ++ [cellI n])) :
    Rw w w' B r gp gk gv' (G ++ [n]) (R.withCl (fun b => gv'.ownBlock = some b)) := by
  have hg := ha.grown
  have hsz : ∀ b, gv'.ownBlock = some b → b < w'.heap.size := fun b hb => (World.ownsRow.lt ha.row b hb).2
  have ne : ∀ g, gv.ownBlock = some g → B ≤ g := fun g e => own_block h.row e
  have hB : w.heap.size ≤ B := by have := h.rn.gp; have := h.lp; omega
  refine ⟨⟨h.rn.ring.grow (og := gv.ownBlock) h.rn.inv.lens hg.size (fun b hb hn => hg.block b hb (fun e => hn e.symm)) (fun g e => ⟨h.cl g e, ?_, ?_, ?_⟩) _ (fun b hb => ⟨?_, hsz b hb⟩), h.rn.inv.withCl _, ?_, h.rn.gp, h.rn.gk⟩, ?_, fun g e => e, h.lr, h.lp, h.lk, Nat.le_trans h.lB hg.size⟩
  · have := ne g e; have := h.lr; omega
  · have := ne g e; have := h.lp; omega
  · have := ne g e; have := h.lk; omega
  · rcases ha.new b hb with q | q
    · exact .inl (h.cl b q)
    · exact .inr q
  · exact h.rn.bel.trans ⟨hg.os, hg.tape, hg.output, hg.size, fun b hb => hg.block b (by have := h.rn.bel.size; omega) (fun e => by have := ne b e.symm; omega)⟩
  · have hr := ha.row
    simpa using hr
/-- A list of one's own, just begun. -/
theorem Rw.start {w w2 : World} {r gp gk : Nat} {R : Rg} (h : Rn w w2 r gp gk R) : Rw w (w2.alloc (.cells #[] 3)) w2.heap.size r gp gk (.slice (some ⟨w2.heap.size, 0, none⟩) 0 0) [] (R.withCl (fun b => b = w2.heap.size)) := by
  have hb := below_one w2 (.cells #[] 3)
  have hlt := h.ring.lt
  refine ⟨⟨h.ring.fresh h.inv.lens hb (Nat.le_refl _) (by simp), h.inv.withCl _, h.bel.trans (hb.mono h.bel.size), h.gp, h.gk⟩, ⟨rfl, .inr ⟨w2.heap.size, 0, #[], rfl, Nat.le_refl _, heap_alloc_new w2 _, Nat.le_refl _, by decide, rfl, rfl⟩⟩, fun g e => ?_, hlt.1, hlt.2.1, hlt.2.2, by simp⟩
  simp [Value.ownBlock] at e
  exact e.symm
end Go.Proofs.YtmajlldfiiokoaaGreatDoor

/- Of: the circle of those that live, sorted by their places (slices.SortFunc by the shelf's contract). -/
namespace Go.Proofs.YtmajlldfiiokoaaGreatDoor
open Go.ChangeShapes Go.WideShapes Go.ChangeAt Go.RowKit Go.Deep
set_option linter.unusedVariables false

set_option maxRecDepth 100000 in
set_option maxHeartbeats 2000000 in
theorem live_own (r gp gk : Nat) (R : Rg) (w : World) (h : RingAt w r gp gk R) :
    Calls Tryz.prog 11 #[.pointer (some ⟨r, 0, none⟩)] w fun e w' => ∃ a c, e = .returned (.slice a R.live.length c) ∧ w'.ownsRow w.heap.size 3 1 (.slice a R.live.length c) R.live.length (R.live.map cellI) ∧ Below w.heap.size w w' := by
  obtain ⟨i0, hi, hz0, hz1, hz2⟩ := info_of Tryz.infoInt
  have H : Hid (RingAt w r gp gk R) := h
  clear h
  go_enter Tryz.func11, Tryz.ntmps11
  go_wp2
  go_loopg [5, 3] 32 (fun kx s v wr => ∃ k : Nat, s = .int .i64 k ∧ k ≤ 32 ∧ kx = 32 - k ∧ Hid (Below w.heap.size w wr) ∧ Hid (wr.ownsRow w.heap.size 3 1 v (R.liveTo k).length ((R.liveTo k).map cellI)))
  case atStart => exact ⟨0, rfl, Nat.zero_le _, rfl, (Below.refl _ _ : Below w.heap.size w w), World.ownsRow_nil w w.heap.size 3 1⟩
  case round =>
    obtain ⟨k, rfl, hk, rfl, HB, HO⟩ := hrel
    by_cases hlt : k < 32
    · have hl := liveTo_len R k
      cases hq : R.lives k
      · have HQ : Hid _ := hq
        have E : Hid (R.liveTo (k + 1) = R.liveTo k) := by show R.liveTo (k + 1) = R.liveTo k; simp [Rg.liveTo, hq]
        clear hq
        go_wp2_with (go_at_call 15; refine (lives_r _ _ _ _ _ _ (H.out.below HB.out)).mono ?_; rintro e w' ⟨rfl, hb⟩; rw [HQ.out])
        go_roundg (32 - (k + 1))
        case measure => omega
        case rel => exact ⟨k + 1, by go_num, by omega, rfl, HB.out.trans (hb.mono HB.out.size), by rw [E.out]; exact HO.out.kept (row := none) ⟨hb.os, hb.tape, hb.output, hb.size, fun b hb1 _ => hb.block b hb1⟩ (by cases HH : Value.ownBlock _ <;> simp)⟩
      · have HQ : Hid _ := hq
        have E : Hid (R.liveTo (k + 1) = R.liveTo k ++ [(k : Int)]) := by show R.liveTo (k + 1) = _; simp [Rg.liveTo, hq]
        clear hq
        go_wp2_with fail
        refine (lives_r _ _ _ _ _ _ (H.out.below HB.out)).mono ?_
        rintro e w2 ⟨rfl, hb⟩
        rw [HQ.out]
        have HO2 : Hid ((w2.alloc (.cells #[.int .i64 k] 3)).ownsRow w.heap.size 3 1 u3 (R.liveTo k).length ((R.liveTo k).map cellI)) := (HO.out.kept (row := none) (w' := w2) ⟨hb.os, hb.tape, hb.output, hb.size, fun b hb1 _ => hb.block b hb1⟩ (by cases HH : Value.ownBlock _ <;> simp)).alloc (.cells #[.int .i64 k] 3)
        have HS : Hid (Src Tryz.prog 1 24 (.slice (some ⟨w2.heap.size, 0, none⟩) 1 1) 1 [cellI k] (w2.alloc (.cells #[.int .i64 k] 3))) := Src.ofSlice _ Tryz.underlying24 _ _ _ _ rfl (World.news_of_block (cs := #[.int .i64 k]) (t := 3) (fr := (0, 0)) (heap_alloc_new w2 _)) (by simp [cellI, Value.oneCell'])
        have B2 : Hid (Below w.heap.size w w2) := HB.out.trans (hb.mono HB.out.size)
        clear hb
        go_wp2_with (at_builtin; refine wpList_own_append _ rfl _ _ 24 24 rfl w.heap.size 3 i0 _ 8 Tryz.underlying24 hi hz0 hz1 hz2 rfl _ _ _ rfl HO2.out _ 1 [cellI k] rfl HS.out ?c3 ?c4 ?c5 ?_)
        case c3 => unfold maxLen; omega
        case c4 => omega
        case c5 => have := B2.out.size; simp; omega
        intro v' w3 ha
        have HA : Hid _ := ha
        clear ha
        go_wp2
        go_roundg (32 - (k + 1))
        case measure => omega
        case rel =>
          refine ⟨k + 1, by go_num, by omega, rfl, ?_, ?_⟩
          · have hg := HA.out.grown
            have b3 : Below w.heap.size w (w2.alloc (.cells #[.int .i64 k] 3)) := B2.out.trans ((below_one _ _).mono B2.out.size)
            exact b3.trans ⟨hg.os, hg.tape, hg.output, hg.size, fun b hb1 => hg.block b (by have := b3.size; omega) (fun e => by have := (World.ownsRow.lt HO2.out b e.symm).1; omega)⟩
          · have hr := HA.out.row
            rw [E.out]
            refine (show w3.ownsRow w.heap.size 3 1 v' (R.liveTo k ++ [(k : Int)]).length ((R.liveTo k ++ [(k : Int)]).map cellI) from ?_)
            simpa using hr
    · obtain rfl : k = 32 := by omega
      obtain ⟨a, c, hv⟩ : ∃ a c, u3 = .slice a (R.liveTo 32).length c := by
        rcases HO.out.2 with ⟨h0, h1⟩ | ⟨g, cap, cur, hv, _⟩
        · exact ⟨none, 0, by rw [h0, h1]⟩
        · exact ⟨_, _, hv⟩
      subst hv
      go_wp2
      go_ret
      have hl := liveTo_len R 32
      exact ⟨a, c, rfl, HO.out, HB.out⟩

def cfI (x y : Int) : Int := if x < y then -1 else if y < x then 1 else 0
theorem cf_lt (x y : Int) : cfI x y < 0 ↔ x < y := by
  unfold cfI
  split
  · rename_i h; exact ⟨fun _ => h, fun _ => by decide⟩
  · rename_i h
    split
    · exact ⟨fun q => absurd q (by decide), fun q => absurd q h⟩
    · exact ⟨fun q => absurd q (by decide), fun q => absurd q h⟩
theorem nan_id (x : Int) (w : World) : Calls Tryz.prog 102 #[.int .u64 x] w fun e w' => e = .returned (.bool false) ∧ w' = w := by
  have e : (x != x) = false := by simp
  go_enter Tryz.func102, Tryz.ntmps102
  go_wp2
  go_ret
  exact ⟨rfl, rfl⟩
theorem cmp_id (x y : Int) (w : World) : Calls Tryz.prog 53 #[.int .u64 x, .int .u64 y] w fun e w' => e = .returned (.int .i64 (cfI x y)) ∧ w' = w := by
  by_cases h1 : x < y
  · have E : Hid (cfI x y = -1) := (by unfold cfI; rw [if_pos h1] : cfI x y = -1)
    go_enter Tryz.func53, Tryz.ntmps53
    go_wp2_with (go_at_call 102; refine (nan_id _ _).mono ?_; rintro e w' ⟨rfl, rfl⟩)
    go_ret
    exact ⟨ret_i E.out.symm, rfl⟩
  · by_cases h2 : y < x
    · have E : Hid (cfI x y = 1) := (by unfold cfI; rw [if_neg h1, if_pos h2] : cfI x y = 1)
      go_enter Tryz.func53, Tryz.ntmps53
      go_wp2_with (go_at_call 102; refine (nan_id _ _).mono ?_; rintro e w' ⟨rfl, rfl⟩)
      go_ret
      exact ⟨ret_i E.out.symm, rfl⟩
    · have E : Hid (cfI x y = 0) := (by unfold cfI; rw [if_neg h1, if_neg h2] : cfI x y = 0)
      go_enter Tryz.func53, Tryz.ntmps53
      go_wp2_with (go_at_call 102; refine (nan_id _ _).mono ?_; rintro e w' ⟨rfl, rfl⟩)
      go_ret
      exact ⟨ret_i E.out.symm, rfl⟩
/-- The comparison: by places. -/
theorem of1_r (r gp gk bx : Nat) (R : Rg) (x y : Int) (w : World) (h : RingAt w r gp gk R) (hb : w.cell? ⟨bx, 0, none⟩ = some (.pointer (some ⟨r, 0, none⟩))) :
    Calls Tryz.prog 52 (#[.int .i64 x, .int .i64 y] ++ #[.pointer (some ⟨bx, 0, none⟩)]) w fun e w' => e = .returned (.int .i64 (cfI (R.idOf x) (R.idOf y))) ∧ ∃ q, w' = w.drewN q := by
  have H : Hid (RingAt w r gp gk R) := h
  have z := cell_block hb
  clear h
  show Calls Tryz.prog 52 #[.int .i64 x, .int .i64 y, .pointer (some ⟨bx, 0, none⟩)] w _
  go_enter Tryz.func52, Tryz.ntmps52
  go_wp2_with (go_quiet (first
    | (go_at_call 54; exact Calls.quiet_of_same (id_r _ _ _ _ _ _ (H.out.below ⟨rfl, rfl, rfl, Nat.le_refl _, fun _ _ => rfl⟩)))
    | (go_at_call 53; exact Calls.quiet_of_same (cmp_id _ _ _))))
  go_ret
  exact ⟨rfl, _, rfl⟩

/-- For the sorting of 52. -/
theorem sw_size {α : Type} [Inhabited α] (enc : α → Value) (w : World) (blk off n : Nat) (dk : Array α) (os : Array Obj) : w.heap.size ≤ (Go.Proofs.sortWorld enc w blk off n dk os).heap.size := by
  simp [Go.Proofs.sortWorld, Go.Sort.grow, Go.Sort.putRow, Go.Sort.mapBlock, Go.Sort.ahead]
/-- For the sorting of 52. -/
theorem sw_block {α : Type} [Inhabited α] (enc : α → Value) (w : World) (blk off n : Nat) (dk : Array α) (os : Array Obj) {b : Nat} (hb : b < w.heap.size) (hne : b ≠ blk) : (Go.Proofs.sortWorld enc w blk off n dk os).heap[b]? = w.heap[b]? := by
  simp [Go.Proofs.sortWorld, Go.Sort.grow, Go.Sort.putRow, Go.Sort.mapBlock, Go.Sort.ahead, Array.getElem?_append, hb]
  rw [Array.getElem_modify, if_neg (Ne.symm hne)]

theorem enter_of1 (args : Array Value) (w : World) : (callFunc 52 args).run Tryz.prog w = .ok (.enter 52 args) w := by kernel_rfl
/-- For the sorting of 52. -/
theorem swo_id (f : Int → Int) : Go.Sort.SWO (Go.Proofs.ltOf fun x y => cfI (f x) (f y)) := by
  refine ⟨fun x => ?_, fun x y z h1 h2 => ?_, fun x y z h1 h2 => ?_⟩
  · simp only [Go.Proofs.ltOf, decide_eq_false_iff_not, cf_lt]; omega
  · simp only [Go.Proofs.ltOf, decide_eq_true_eq, cf_lt] at *; omega
  · simp only [Go.Proofs.ltOf, decide_eq_false_iff_not, cf_lt] at *; omega
/-- For the sorting of 52. -/
theorem getBang (d : Array Int) (j : Nat) (hj : j < d.size) : d[j]! = d.toList.getD j 0 := by
  have h : d.toList.getD j 0 = d.toList[j]'(by simpa using hj) := by simp [List.getD, hj]
  rw [h, getElem!_pos d j hj]; rfl
theorem sort_live (B r gp gk blk cap bx : Nat) (R : Rg) (w : World) (h : RingAt w r gp gk R) (hi : Inv R) (hcl : R.cl blk) (h1 : r ≠ blk) (h2 : gp ≠ blk) (h3 : gk ≠ blk)
    (hbx : w.cell? ⟨bx, 0, none⟩ = some (.pointer (some ⟨r, 0, none⟩))) (hbn : bx ≠ blk) (hrow : w.ownsRow B 3 1 (.slice (some ⟨blk, 0, none⟩) R.live.length cap) R.live.length (R.live.map cellI)) :
    Calls Tryz.prog 51 #[.slice (some ⟨blk, 0, none⟩) R.live.length cap, .func (.func 52) #[] #[.pointer (some ⟨bx, 0, none⟩)]] w fun e w' =>
      e = .returned (.tuple #[]) ∧ ∃ C, Cir R C ∧ InIn w' (some ⟨blk, 0, none⟩) R.live.length C ∧ w.heap.size ≤ w'.heap.size ∧ (∀ b, b < w.heap.size → b ≠ blk → w'.heap[b]? = w.heap[b]?) ∧ w'.os = w.os ∧ w'.tape = w.tape ∧ w'.output = w.output := by
  have hll : R.live.length ≤ 32 := liveTo_len R 32
  have h4 := live_four hi
  have hblk : blk < w.heap.size := by
    obtain ⟨g, e, _, hg, _⟩ := own_int hrow (i := 0) (by omega)
    cases e; exact hg
  have hold : Go.Sort.Holds (Value.int .i64) w blk 0 R.live.toArray := by
    intro j hj
    have hj' : j < R.live.length := by simpa using hj
    obtain ⟨g, e, _, _, hc⟩ := own_int hrow (i := j) hj'
    cases e
    refine ⟨?_, ?_⟩
    · rw [Nat.zero_add, hc, getBang _ _ hj]
    · rcases hrow.2 with ⟨h0, _⟩ | ⟨g, cap', cur, hv, _, hg, _⟩
      · cases h0
      · simp at hv
        rw [← hv.1] at hg
        simp [World.frozen?, hg]
  have hc : Go.Proofs.CmpReads Tryz.prog 52 #[.pointer (some ⟨bx, 0, none⟩)] (Value.int .i64) (fun x y => cfI (R.idOf x) (R.idOf y)) blk 0 R.live.toArray.size w := by
    intro m os dk hs x y
    have hb : bx < w.heap.size := cell_block hbx
    refine of1_r r gp gk bx (R.withCl R.cl) x y _ (h.grow (og := some blk) hi.lens (sw_size _ _ _ _ _ _ _) (fun b hb hn => sw_block _ _ _ _ _ _ _ hb (fun e => hn (by rw [e]))) (fun g e => by cases e; exact ⟨hcl, h1, h2, h3⟩) R.cl (fun b hb => ⟨.inl hb, Nat.lt_of_lt_of_le (h.old b hb) (sw_size _ _ _ _ _ _ _)⟩)) ?_
    rw [← hbx]
    exact World.cell?_of_block (sw_block _ _ _ _ _ _ _ hb hbn)
  refine (Go.Proofs.Tryz.slices_SortFunc (Value.int .i64) (fun _ => rfl) (fun x y => cfI (R.idOf x) (R.idOf y)) (swo_id R.idOf) 52 #[.pointer (some ⟨bx, 0, none⟩)] blk 0 cap R.live.toArray w enter_of1 hc.lays hold hblk (by simp; omega)).mono ?_
  rintro e w' ⟨he, d', n, os, hp, hs, rfl⟩
  have hsz : d'.size = R.live.length := by have := hp.1; simpa using this
  have hpm : d'.toList.Perm R.live := by
    have := hp.2.2
    have e1 : (d'.extract 0 R.live.toArray.size) = d' := by rw [← hp.1]; simp
    have e2 : (R.live.toArray.extract 0 R.live.toArray.size) = R.live.toArray := by simp
    rw [e1, e2] at this
    simpa using this
  have hnd : d'.toList.Nodup := hpm.nodup_iff.2 (live_nodup R 32)
  have hlv : ∀ x, x ∈ d'.toList ↔ R.lives x = true := fun x => by
    rw [hpm.mem_iff]
    exact ⟨fun q => ((mem_live R x).1 q).2.2, fun q => hi.in_live q⟩
  refine ⟨he, d'.toList, ⟨?_, hlv, by simpa using hsz⟩, ⟨by simpa using hsz, by omega, .inr ⟨blk, 0, rfl, Nat.lt_of_lt_of_le hblk (sw_size _ _ _ _ _ _ _), fun j hj => ?_⟩⟩, sw_size _ _ _ _ _ _ _, fun b hb hn => sw_block _ _ _ _ _ _ _ hb hn, rfl, rfl, rfl⟩
  · rw [List.pairwise_iff_getElem]
    intro i j hi' hj' hij
    have hi2 : i < d'.size := by simpa using hi'
    have hj2 : j < d'.size := by simpa using hj'
    have q := hs i j (Nat.zero_le _) hij (by simp; omega)
    have ei : d'[i]! = d'.toList[i] := by rw [getElem!_pos d' i hi2]; rfl
    have ej : d'[j]! = d'.toList[j] := by rw [getElem!_pos d' j hj2]; rfl
    simp only [Go.Proofs.ltOf, decide_eq_false_iff_not, cf_lt] at q
    rw [ei, ej] at q
    have hne : R.idOf d'.toList[i] ≠ R.idOf d'.toList[j] := fun e => by
      have := hi.inj _ _ ((hlv _).1 (List.getElem_mem _)) ((hlv _).1 (List.getElem_mem _)) e
      exact List.pairwise_iff_getElem.1 hnd i j hi' hj' hij this
    omega
  · have hj2 : j < d'.size := by omega
    have hx : d'.toList.getD j 0 ∈ d'.toList := by
      have e0 : d'.toList.getD j 0 = d'.toList[j]'(by simpa using hj2) := by simp [List.getD, hj2]
      rw [e0]; exact List.getElem_mem _
    have hr := hi.rng _ ((hlv _).1 hx)
    refine ⟨by unfold i64; omega, fun k hk => ?_⟩
    obtain rfl : k = 0 := by omega
    have hq := (Go.Proofs.holds_sortWorld (Value.int .i64) w blk 0 n R.live.toArray d' os hblk hold hp.1 j hj2).1
    rw [getBang d' j hj2] at hq
    simpa [encI] using hq
end Go.Proofs.YtmajlldfiiokoaaGreatDoor
