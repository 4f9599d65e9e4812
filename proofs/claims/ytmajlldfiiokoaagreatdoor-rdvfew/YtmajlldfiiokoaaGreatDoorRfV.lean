/- The document's ring (wigwagref10) by value: four rows of 32; Live. -/
import Derived.Test.YtmajlldfiiokoaaGreatDoorJoinRfW
import Derived.Test.YtmajlldfiiokoaaGreatDoorChInv
namespace Go.Proofs.YtmajlldfiiokoaaGreatDoor
open Go.ChangeShapes Go.WideShapes Go.ChangeAt Go.RowKit Go.Deep
set_option linter.unusedVariables false

/-- A member's three cells. -/
structure Pr3 where
  id : Int
  pred : Int
  a : Option Addr
  len : Nat
  cap : Nat
def pr30 : Pr3 := ⟨0, 0, none, 0, 0⟩
def Pr3.cells (p : Pr3) : List Value := [.int .u64 p.id, .int .i64 p.pred, .slice p.a p.len p.cap]
def Pr3.ok (p : Pr3) : Prop := u64 p.id ∧ i64 p.pred
def lvL (R : Rg) : List Bool := (List.range 32).map fun (k : Nat) => R.lives (k : Int)
def usL (R : Rg) : List Bool := (List.range 32).map fun (k : Nat) => (R.pl (k : Int)).isSome
def idL (R : Rg) : List Int := (List.range 32).map fun (k : Nat) => R.idOf (k : Int)
/-- What a member knows lies in its cells. -/
def PrOk (w : World) (p : Option Pe) (q : Pr3) : Prop := ∀ x, p = some x → q.id = x.id ∧ q.pred = x.pred ∧ PeIn w x.id x.pred q.a q.len q.cap x.succ
structure RfV (w : World) (R : Rg) (v : Value) : Prop where
  ex : ∃ ua uc la lc ia ic pa pc P, v = .agg #[.slice ua 32 uc, .slice la 32 lc, .slice ia 32 ic, .slice pa 32 pc] ∧ LvIn w ua 32 (usL R) ∧ LvIn w la 32 (lvL R) ∧ IdIn w ia 32 (idL R) ∧ InRow 3 Pr3.cells Pr3.ok pr30 w pa 32 P ∧ ∀ k : Nat, k < 32 → PrOk w (R.kn k) (P.getD k pr30)
theorem RfV.below {w w' : World} {R : Rg} {v : Value} (h : RfV w R v) (hb : Below w.heap.size w w') : RfV w' R v := by
  obtain ⟨ua, uc, la, lc, ia, ic, pa, pc, P, e, h1, h2, h3, h4, h5⟩ := h.ex
  exact ⟨ua, uc, la, lc, ia, ic, pa, pc, P, e, h1.below (Nat.le_refl _) hb, h2.below (Nat.le_refl _) hb, h3.below (Nat.le_refl _) hb, h4.below (Nat.le_refl _) hb, fun k hk x hx => ⟨(h5 k hk x hx).1, (h5 k hk x hx).2.1, (h5 k hk x hx).2.2.below (Nat.le_refl _) hb⟩⟩
theorem lvL_getD (R : Rg) {k : Nat} (hk : k < 32) : (lvL R).getD k false = R.lives k := by simp [lvL, List.getD, hk]
theorem usL_getD (R : Rg) {k : Nat} (hk : k < 32) : (usL R).getD k false = (R.pl k).isSome := by simp [usL, List.getD, hk]
theorem idL_getD (R : Rg) {k : Nat} (hk : k < 32) : (idL R).getD k 0 = R.idOf k := by simp [idL, List.getD, hk]
theorem livesB_R {R : Rg} (h : Inv R) (n : Int) : livesB (lvL R) n = R.lives n := by
  by_cases n0 : n < 0
  · rw [lives_neg n0]
    cases hl : R.lives n
    · rfl
    · have := h.rng n hl; omega
  · by_cases nk : n < 32
    · rw [lives_at (by omega), lvL_getD R (by omega)]
      congr 1; omega
    · rw [lives_out (by simp [lvL]; omega)]
      cases hl : R.lives n
      · rfl
      · have := h.rng n hl; omega
theorem idI_R {R : Rg} {n : Int} (h0 : 0 ≤ n) (h1 : n < 32) : idI (idL R) n = R.idOf n := by
  rw [id_at h0, idL_getD R (by omega)]
  congr 1; omega
theorem headI_R {R : Rg} (h : Inv R) (l : List Int) : headI (lvL R) l = headF R.lives l := by
  induction l with
  | nil => rfl
  | cons a l ih => simp only [headI, headF, livesB_R h, ih]

set_option maxRecDepth 100000 in
set_option maxHeartbeats 2000000 in
theorem rlive_r (R : Rg) (v : Value) (w : World) (h : RfV w R v) :
    Calls Tryz.prog 70 #[v] w fun e w' => ∃ a c, e = .returned (.slice a R.live.length c) ∧ InIn w' a R.live.length R.live ∧ (∀ x, a = some x → w.heap.size ≤ x.block) ∧ Below w.heap.size w w' := by
  obtain ⟨i0, hif, hz0, hz1, hz2⟩ := info_of Tryz.infoInt
  obtain ⟨ua, uc, la, lc, ia, ic, pa, pc, P, rfl, h1, h2, h3, h4, h5⟩ := h.ex
  have HL : Hid (LvIn w la 32 (lvL R)) := h2
  clear h h1 h2 h3 h4 h5
  obtain ⟨W1, hW1⟩ : ∃ W1, W1 = (w.alloc (.cells #[.slice ua 32 uc, .slice la 32 lc, .slice ia 32 ic, .slice pa 32 pc] 32)).alloc (.cells #[] 3) := ⟨_, rfl⟩
  have b1 : Below w.heap.size w W1 := by rw [hW1]; exact (below_one _ _).trans ((below_one _ _).mono (by simp))
  have e0 : W1.heap[w.heap.size]? = some (.cells #[.slice ua 32 uc, .slice la 32 lc, .slice ia 32 ic, .slice pa 32 pc] 32 (0, 0)) := by rw [hW1, Below.heap_alloc _ _ _ (by simp)]; exact heap_alloc_new w _
  have e1 : W1.heap[w.heap.size + 1]? = some (.cells #[] 3 (0, 0)) := by rw [hW1]; simpa using heap_alloc_new (w.alloc (.cells #[.slice ua 32 uc, .slice la 32 lc, .slice ia 32 ic, .slice pa 32 pc] 32)) (.cells #[] 3)
  have x1 : W1.cell? ⟨w.heap.size, 1, none⟩ = some (.slice la 32 lc) := by simp [World.cell?, e0]
  have xz := cell_block x1
  have HX : Hid (W1.cell? ⟨w.heap.size, 1, none⟩ = some (.slice la 32 lc)) := x1
  have HO : Hid (W1.ownsRow (w.heap.size + 1) 3 1 (.slice (some ⟨w.heap.size + 1, 0, none⟩) 0 0) (R.liveTo 0).length ((R.liveTo 0).map cellI)) := ⟨rfl, .inr ⟨w.heap.size + 1, 0, _, rfl, Nat.le_refl _, e1, Nat.le_refl _, by decide, rfl, rfl⟩⟩
  have HB : Hid (Below w.heap.size w W1) := b1
  have hs1 : Hid (W1.heap.size = w.heap.size + 2) := by show W1.heap.size = w.heap.size + 2; rw [hW1]; simp
  clear b1 e0 e1
  go_enter Tryz.func70, Tryz.ntmps70
  go_upto_region 2 with fail
  rw [← hW1]
  clear hW1
  go_wp2
  clear x1 xz
  go_loopg [10, 3] 32 (fun kx s ov wr => ∃ k : Nat, s = .int .i64 k ∧ k ≤ 32 ∧ kx = 32 - k ∧ Hid (Below (w.heap.size + 1) W1 wr) ∧ Hid (wr.ownsRow (w.heap.size + 1) 3 1 ov (R.liveTo k).length ((R.liveTo k).map cellI)))
  case atStart => exact ⟨0, rfl, Nat.zero_le _, rfl, (Below.refl _ _ : Below (w.heap.size + 1) W1 W1), HO⟩
  case round =>
    obtain ⟨k, rfl, hk, rfl, HB1, HO1⟩ := hrel
    clear HO
    have hll : (R.liveTo k).length ≤ k := liveTo_len R k
    have hsz := HB1.out.size
    have hs1' := hs1.out
    have BB : Hid (Below w.heap.size w wr) := HB.out.trans (HB1.out.mono (Nat.le_succ _))
    by_cases hlt : k < 32
    · obtain ⟨b, o, rfl, hb, _, hc⟩ := (HL.out.below (Nat.le_refl _) BB.out).one (v := Value.bool) (fun _ => rfl) (i := k) hlt
      rw [lvL_getD R hlt] at hc
      have x1 : wr.cell? ⟨w.heap.size, 1, none⟩ = some (.slice (some ⟨b, o, none⟩) 32 lc) := by rw [← HX.out]; exact World.cell?_of_block (HB1.out.block w.heap.size (Nat.lt_succ_self _))
      have xz := cell_block x1
      have hwz : Hid (w.heap.size + 1 ≤ wr.heap.size) := by show w.heap.size + 1 ≤ wr.heap.size; omega
      clear hs1' hsz
      cases hq : R.lives k
      · rw [hq] at hc
        have E : Hid (R.liveTo (k + 1) = R.liveTo k) := by show R.liveTo (k + 1) = _; simp [Rg.liveTo, hq]
        clear hq
        go_wp2
        go_roundg (32 - (k + 1))
        case measure => omega
        case rel => exact ⟨k + 1, by go_num, by omega, rfl, HB1, by rw [E.out]; exact HO1.out⟩
      · rw [hq] at hc
        have E : Hid (R.liveTo (k + 1) = R.liveTo k ++ [(k : Int)]) := by show R.liveTo (k + 1) = _; simp [Rg.liveTo, hq]
        clear hq
        have HO2 : Hid ((wr.alloc (.cells #[.int .i64 k] 3)).ownsRow (w.heap.size + 1) 3 1 u3 (R.liveTo k).length ((R.liveTo k).map cellI)) := HO1.out.alloc (.cells #[.int .i64 k] 3)
        have HS : Hid (Src Tryz.prog 1 24 (.slice (some ⟨wr.heap.size, 0, none⟩) 1 1) 1 [cellI k] (wr.alloc (.cells #[.int .i64 k] 3))) := Src.ofSlice _ Tryz.underlying24 _ _ _ _ rfl (World.news_of_block (cs := #[.int .i64 k]) (t := 3) (fr := (0, 0)) (heap_alloc_new wr _)) (by simp [cellI, Value.oneCell'])
        go_wp2_with (at_builtin; refine wpList_own_append _ rfl _ _ 24 24 rfl (w.heap.size + 1) 3 i0 _ 8 Tryz.underlying24 hif hz0 hz1 hz2 rfl _ _ _ rfl HO2.out _ 1 [cellI k] rfl HS.out ?c3 ?c4 ?c5 ?_)
        case c3 => unfold maxLen; omega
        case c4 => omega
        case c5 => have := hwz.out; simp; omega
        intro v' w3 ha
        have HA : Hid _ := ha
        clear ha
        go_wp2
        go_roundg (32 - (k + 1))
        case measure => omega
        case rel =>
          refine ⟨k + 1, by go_num, by omega, rfl, ?_, ?_⟩
          · have hg := HA.out.grown
            have b3 : Below (w.heap.size + 1) W1 (wr.alloc (.cells #[.int .i64 k] 3)) := HB1.out.trans ((below_one _ _).mono hwz.out)
            exact b3.trans ⟨hg.os, hg.tape, hg.output, hg.size, fun b hb1 => hg.block b (by have := hwz.out; simp; omega) (fun e => by have := (World.ownsRow.lt HO2.out b e.symm).1; omega)⟩
          · have hr := HA.out.row
            rw [E.out]
            refine (show w3.ownsRow (w.heap.size + 1) 3 1 v' (R.liveTo k ++ [(k : Int)]).length ((R.liveTo k ++ [(k : Int)]).map cellI) from ?_)
            simpa using hr
    · obtain rfl : k = 32 := by omega
      obtain ⟨a, c, hv⟩ : ∃ a c, u3 = .slice a (R.liveTo 32).length c := by
        rcases HO1.out.2 with ⟨h0, h1⟩ | ⟨g, cap, cur, hv, _⟩
        · exact ⟨none, 0, by rw [h0, h1]⟩
        · exact ⟨_, _, hv⟩
      subst hv
      go_wp2
      go_ret
      exact ⟨a, c, rfl, in_of_own HO1.out (live_i64 R 32 (by omega)) (by show (R.liveTo 32).length ≤ _; omega), fun x hx => Nat.le_trans (Nat.le_succ _) (own_new HO1.out x hx), BB.out⟩
end Go.Proofs.YtmajlldfiiokoaaGreatDoor
