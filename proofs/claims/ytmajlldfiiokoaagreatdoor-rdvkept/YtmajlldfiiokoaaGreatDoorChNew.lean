/- slices.Index at places; New. -/
import Derived.Test.YtmajlldfiiokoaaGreatDoorJoinChMap
import Derived.Test.YtmajlldfiiokoaaGreatDoorSortRing
namespace Go.Proofs.YtmajlldfiiokoaaGreatDoor
open Go.ChangeShapes Go.WideShapes Go.ChangeAt Go.RowKit Go.Deep
set_option linter.unusedVariables false

theorem ids_at {w : World} {a : Option Addr} {n : Nat} {l : List Int} (h : IdIn w a n l) : IdsAt w a n l := by
  refine ⟨h.1, ?_⟩
  by_cases h0 : n = 0
  · exact .inl h0
  rcases h.2.2 with h1 | ⟨b, o, ha, hlt, hc⟩
  · exact .inl h1
  · refine .inr ⟨b, o, ha, fun j hj => ?_⟩
    have := (hc j hj).2 0 (by omega)
    simpa [encU] using this

set_option maxHeartbeats 1000000 in
theorem index_id (a : Option Addr) (n cap : Nat) (l : List Int) (x : Int) (k : Nat) (w : World) (h : IdIn w a n l) (hk : k < n) (hx : l.getD k 0 = x) (hmin : ∀ j, j < k → l.getD j 0 ≠ x) :
    Calls Tryz.prog 88 #[.slice a n cap, .int .u64 x] w fun e w' => e = .returned (.int .i64 k) ∧ w' = w := by
  have HI : Hid (IdIn w a n l) := h
  have HX : Hid (l.getD k 0 = x ∧ ∀ j, j < k → l.getD j 0 ≠ x) := ⟨hx, hmin⟩
  have hm := h.2.1
  clear h hx hmin
  go_enter Tryz.func88, Tryz.ntmps88
  go_wp2
  go_loop [8] (fun s => ∃ j : Nat, s = .int .i64 j ∧ j ≤ k) (fun s => n - (intOf s).toNat)
  case atStart => exact ⟨0, rfl, Nat.zero_le _⟩
  case round =>
    obtain ⟨j, rfl, hj⟩ := hrel
    have hlt : j < n := by omega
    obtain ⟨b, o, rfl, hb, _, hc⟩ := HI.out.one (v := Value.int .u64) (fun _ => rfl) (i := j) hlt
    by_cases e : j = k
    · subst e
      rw [HX.out.1] at hc
      have ee : (x == x) = true := by simp
      go_wp2
      go_ret
      exact ⟨rfl, rfl⟩
    · have hne := HX.out.2 j (by omega)
      generalize l.getD j 0 = y at hc hne
      have ee : (x == y) = false := by simpa using Ne.symm hne
      go_wp2
      go_round
      case rel => exact ⟨j + 1, by go_num, by omega⟩
      case measure => simp [intOf]; omega

theorem rise_len : ∀ (t l : List Int), t.Pairwise (· < ·) → (∀ x, x ∈ t → x ∈ l) → t.length ≤ l.length
  | [], l, _, _ => Nat.zero_le _
  | a :: t, l, hp, hs => by
    have ha : a ∈ l := hs a (by simp)
    obtain ⟨h1, h2⟩ := List.pairwise_cons.1 hp
    have ih := rise_len t (l.erase a) h2 (fun x hx => by
      have := h1 x hx
      exact (List.mem_erase_of_ne (by omega)).2 (hs x (List.mem_cons_of_mem _ hx)))
    have := List.length_erase_of_mem ha
    have : 0 < l.length := List.length_pos_of_mem ha
    simp only [List.length_cons]
    omega
theorem in_drop {w : World} {g : Nat} {C : List Int} {n : Nat} (h : InIn w (some ⟨g, 0, none⟩) n C) (j m : Nat) (hj : j + m = n) : InIn w (some ⟨g, j, none⟩) m (C.drop j) := by
  refine ⟨by rw [List.length_drop, h.1]; omega, by have := h.2.1; omega, ?_⟩
  by_cases h0 : m = 0
  · exact .inl h0
  rcases h.2.2 with h1 | ⟨b, o, ha, hlt, hc⟩
  · omega
  · simp at ha
    obtain ⟨rfl, rfl⟩ := ha
    refine .inr ⟨_, j, rfl, hlt, fun i hi => ?_⟩
    have e : (C.drop j).getD i 0 = C.getD (j + i) 0 := by simp [List.getD]
    rw [e]
    have := hc (j + i) (by omega)
    refine ⟨this.1, fun jj hjj => ?_⟩
    have := this.2 jj hjj
    simpa [Nat.add_mul] using this
theorem below1d (w : World) (o : Obj) : Below w.heap.size w (w.alloc o).drew := (below_one w o).trans (show Below w.heap.size (w.alloc o) (w.alloc o).drew from ⟨rfl, rfl, rfl, Nat.le_refl _, fun _ _ => rfl⟩)
theorem in_empty {w : World} {a : Option Addr} : InIn w a 0 [] := ⟨rfl, by omega, .inl rfl⟩
/-- Where a place stands. -/
def ix (l : List Int) (x : Int) : Nat := l.findIdx (· == x)
theorem ix_spec {l : List Int} {x : Int} (h : x ∈ l) : ix l x < l.length ∧ l.getD (ix l x) 0 = x ∧ ∀ j, j < ix l x → l.getD j 0 ≠ x := by
  have h1 : ix l x < l.length := List.findIdx_lt_length_of_exists ⟨x, h, by simp⟩
  refine ⟨h1, ?_, fun j hj => ?_⟩
  · have := List.findIdx_getElem (xs := l) (p := (· == x)) (w := h1)
    have e : l.getD (ix l x) 0 = l[ix l x] := by simp [List.getD, h1]
    rw [e]
    have h2 : (l[ix l x] == x) = true := this
    exact eq_of_beq h2
  · have hjl : j < l.length := by omega
    have := List.not_of_lt_findIdx (xs := l) (p := (· == x)) (i := j) hj
    have e : l.getD j 0 = l[j] := by simp [List.getD, hjl]
    rw [e]
    simpa using this
/-- The circle: addresses by rising places. -/
def circleOf (l S : List Int) : List Int := S.map fun x => (ix l x : Int)
def others (C : List Int) (k : Nat) : List Int := C.drop (k + 1) ++ C.take k
def rg0 : Rg := ⟨fun _ => none, fun _ => none, fun _ => False⟩
/-- The ring of the first k of a circle. -/
def newTo (l C : List Int) : Nat → Rg
  | 0 => rg0
  | k + 1 => ((newTo l C k).setP (C.getD k 0) (l.getD (C.getD k 0).toNat 0)).setK (C.getD k 0) ⟨l.getD (C.getD k 0).toNat 0, (others C k).getD 2 0, others C k⟩

theorem newTo_cl (l C : List Int) (k : Nat) (b : Nat) : ¬ (newTo l C k).cl b := by
  induction k with
  | zero => exact fun h => h
  | succ k ih => exact ih
theorem newTo_succ (l C : List Int) (k : Nat) : newTo l C (k + 1) = ((newTo l C k).setP (C.getD k 0) (l.getD (C.getD k 0).toNat 0)).setK (C.getD k 0) ⟨l.getD (C.getD k 0).toNat 0, (others C k).getD 2 0, others C k⟩ := rfl

set_option maxRecDepth 100000 in
set_option maxHeartbeats 4000000 in
theorem new_four (a : Option Addr) (cap : Nat) (l : List Int) (w : World) (h : IdIn w a 4 l) :
    Calls Tryz.prog 44 #[.slice a 4 cap] w fun e w' =>
      ((∃ S : List Int, S.Pairwise (· < ·) ∧ (∀ x, x ∈ S ↔ x ∈ l) ∧ S.length < 4 ∧ e = .returned (.tuple #[.pointer none, .iface 116 (.int .i64 8)])) ∨
       (∃ (S : List Int) (r gp gk : Nat), S.Pairwise (· < ·) ∧ (∀ x, x ∈ S ↔ x ∈ l) ∧ S.length = 4 ∧ e = .returned (.tuple #[.pointer (some ⟨r, 0, none⟩), .nilIface]) ∧ RingAt w' r gp gk (newTo l (circleOf l S) 4) ∧ w.heap.size ≤ r ∧ w.heap.size ≤ gp ∧ w.heap.size ≤ gk)) ∧ Below w.heap.size w w' := by
  obtain ⟨i0, hi, hz0, hz1, hz2⟩ := info_of Tryz.infoInt
  have hmm := @run_makeMap Tryz.prog
  have HI : Hid (IdIn w a 4 l) := h
  have HLL : Hid (l.length = 4) := h.1
  clear h
  go_enter Tryz.func44, Tryz.ntmps44
  go_wp2_with fail
  refine (sorted_any a 4 cap l w (ids_at HI.out) (by omega)).mono ?_
  rintro e w1 ⟨v, S, rfl, hb, ho, hp, hmem, _⟩
  have hSl : S.length ≤ 4 := by have := rise_len S l hp (fun x hx => (hmem x).1 hx); rw [HLL.out] at this; exact this
  have HS : Hid (S.Pairwise (· < ·) ∧ (∀ x, x ∈ S ↔ x ∈ l)) := ⟨hp, hmem⟩
  have HB1 : Hid (Below w.heap.size w w1) := hb
  have HO : Hid (OwnIds w.heap.size w1 v S) := ho
  clear hp hmem hb
  obtain ⟨sa, sc, hv⟩ : ∃ sa sc, v = .slice sa S.length sc := by
    rcases ho with ⟨h1, h2⟩ | ⟨g, c, h1, _⟩
    · exact ⟨none, 0, by rw [h1, h2]; rfl⟩
    · exact ⟨_, c, h1⟩
  subst hv
  clear ho
  by_cases q : S.length < 4
  · go_wp2
    go_ret2
    exact ⟨.inl ⟨S, HS.out.1, HS.out.2, q, rfl⟩, HB1.out⟩
  · have hS4 : S.length = 4 := by omega
    rw [hS4] at HO ⊢
    have HS4 : Hid (S.length = 4) := hS4
    clear q hSl hS4
    obtain ⟨g, rfl, hgw, hcell⟩ : ∃ g, sa = some ⟨g, 0, none⟩ ∧ g < w1.heap.size ∧ ∀ j, j < 4 → w1.cell? ⟨g, j, none⟩ = some (.int .u64 (S.getD j 0)) := by
      rcases HO.out with ⟨_, h2⟩ | ⟨g, c, h1, _, _, hg, hR⟩
      · have := HS4.out; rw [h2] at this; cases this
      · simp at h1
        refine ⟨g, h1.1, hg, fun j hj => ?_⟩
        have hjl : j < S.length := by rw [HS4.out]; exact hj
        have := (hR j (by simpa using hjl)).1
        simpa [List.getD, hjl] using this
    have HC : Hid (∀ j, j < 4 → w1.cell? ⟨g, j, none⟩ = some (.int .u64 (S.getD j 0))) := hcell
    clear hcell HO
    obtain ⟨C, hC⟩ : ∃ C, C = circleOf l S := ⟨_, rfl⟩
    have HCl : Hid (C.length = 4) := by show C.length = 4; rw [hC]; simp [circleOf, HS4.out]
    have HCk : Hid (∀ k, k < 4 → C.getD k 0 = (ix l (S.getD k 0) : Int) ∧ S.getD k 0 ∈ l) := fun k hk => by
      have hkl : k < S.length := by rw [HS4.out]; exact hk
      have e : S.getD k 0 = S[k] := by simp [List.getD, hkl]
      refine ⟨by rw [hC, e]; simp [circleOf, List.getD, hkl], ?_⟩
      rw [e]
      exact (HS.out.2 _).1 (List.getElem_mem _)
    have HCd : Hid (C = circleOf l S) := hC
    clear hC
    go_wp2
    go_loopg [24, 5] 4 (fun kx s v wr => ∃ k : Nat, s = .int .i64 k ∧ k ≤ 4 ∧ kx = 4 - k ∧ Hid (Below w1.heap.size w1 wr) ∧ Hid (wr.ownsRow w1.heap.size 3 1 v k ((C.take k).map cellI)))
    case atStart => exact ⟨0, rfl, Nat.zero_le _, rfl, (Below.refl _ _ : Below w1.heap.size w1 w1), World.ownsRow_nil w1 w1.heap.size 3 1⟩
    case round =>
      obtain ⟨k, rfl, hk, rfl, HB, HO⟩ := hrel
      by_cases hlt : k < 4
      · have hc := cell_grown (HC.out k hlt) HB.out
        have hgr : g < wr.heap.size := by have := HB.out.size; omega
        have HIX : Hid _ := ix_spec (HCk.out k hlt).2
        have HE : Hid ((C.take (k + 1)).map cellI = (C.take k).map cellI ++ [cellI (ix l (S.getD k 0))]) := by
          show (C.take (k + 1)).map cellI = _
          have hkl : k < C.length := by rw [HCl.out]; exact hlt
          have e : C[k] = C.getD k 0 := by simp [List.getD, hkl]
          rw [List.take_succ_eq_append_getElem hkl, List.map_append, e, (HCk.out k hlt).1]; rfl
        generalize S.getD k 0 = x at hc HIX HE
        have BW : Hid (Below w.heap.size w wr) := HB1.out.trans (HB.out.mono HB1.out.size)
        have hl4 := HLL.out
        have hix := HIX.out.1
        rw [hl4] at hix
        clear hl4
        go_wp2_with fail
        refine (index_id a 4 cap l x (ix l x) _ (HI.out.below (Nat.le_refl _) BW.out) hix HIX.out.2.1 HIX.out.2.2).mono ?_
        rintro e w3 ⟨rfl, rfl⟩
        obtain ⟨y, hy⟩ : ∃ y, y = ix l x := ⟨_, rfl⟩
        rw [← hy] at HE hix ⊢
        clear hy HIX
        have HO2 : Hid ((w3.alloc (.cells #[.int .i64 y] 3)).ownsRow w1.heap.size 3 1 u5 k ((C.take k).map cellI)) := HO.out.alloc (.cells #[.int .i64 y] 3)
        have HSr : Hid (Src Tryz.prog 1 24 (.slice (some ⟨w3.heap.size, 0, none⟩) 1 1) 1 [cellI y] (w3.alloc (.cells #[.int .i64 y] 3))) := Src.ofSlice _ Tryz.underlying24 _ _ _ _ rfl (World.news_of_block (cs := #[.int .i64 y]) (t := 3) (fr := (0, 0)) (heap_alloc_new w3 _)) (by simp [cellI, Value.oneCell'])
        go_wp2_with (at_builtin; refine wpList_own_append _ rfl _ _ 24 24 rfl w1.heap.size 3 i0 _ 8 Tryz.underlying24 hi hz0 hz1 hz2 rfl _ _ _ rfl HO2.out _ 1 [cellI y] rfl HSr.out ?c3 ?c4 ?c5 ?_)
        case c3 => unfold maxLen; omega
        case c4 => omega
        case c5 => have := HB.out.size; simp; omega
        intro v' w4 ha
        have HA : Hid _ := ha
        clear ha
        go_wp2
        go_roundg (4 - (k + 1))
        case measure => omega
        case rel =>
          refine ⟨k + 1, by go_num, by omega, rfl, ?_, ?_⟩
          · have hg := HA.out.grown
            have b3 : Below w1.heap.size w1 (w3.alloc (.cells #[.int .i64 y] 3)) := HB.out.trans ((below_one _ _).mono HB.out.size)
            exact b3.trans ⟨hg.os, hg.tape, hg.output, hg.size, fun b hb1 => hg.block b (by have := b3.size; omega) (fun e => by have := (World.ownsRow.lt HO2.out b e.symm).1; omega)⟩
          · have hr := HA.out.row
            rw [← List.map_take] at hr
            rw [HE.out]
            exact hr
      · obtain rfl : k = 4 := by omega
        obtain ⟨w5, hw5⟩ : ∃ w5, w5 = wr := ⟨_, rfl⟩
        rw [← hw5] at HB HO ⊢
        clear hw5
        have HO5 : Hid (w5.ownsRow w1.heap.size 3 1 u5 4 (C.map cellI)) := by
          have h := HO.out
          rw [List.take_of_length_le (Nat.le_of_eq HCl.out)] at h
          exact h
        obtain ⟨g5, c5, hv5, hc5, hc5m⟩ : ∃ g5 c5, u5 = .slice (some ⟨g5, 0, none⟩) 4 c5 ∧ 4 ≤ c5 ∧ c5 ≤ 9223372036854775807 := by
          rcases HO5.out.2 with ⟨_, e⟩ | ⟨g, cap, cur, hv, _, _, hnc, hm, _⟩
          · cases e
          · unfold maxLen at hm; exact ⟨g, cap, hv, hnc, by omega⟩
        subst hv5
        have HCi : Hid (∀ x ∈ C, i64 x) := fun x hx => by
          obtain ⟨j, hj, rfl⟩ := List.getElem_of_mem hx
          rw [HCl.out] at hj
          have e := (HCk.out j hj).1
          have h2 := (ix_spec (HCk.out j hj).2).1
          rw [HLL.out] at h2
          have e2 : C.getD j 0 = C[j] := by simp [List.getD, HCl.out, hj]
          rw [← e2, e]
          unfold i64; omega
        have HC5 : Hid (InIn w5 (some ⟨g5, 0, none⟩) 4 C) := in_of_own HO5.out HCi.out (by omega)
        have BW5 : Hid (Below w.heap.size w w5) := HB1.out.trans (HB.out.mono HB1.out.size)
        clear HO HO5 HC HB
        obtain ⟨W2, hW2⟩ : ∃ W2, W2 = ((w5.alloc (.map #[] 0)).alloc (.map #[] 0)).alloc (.cells #[.map (some w5.heap.size), .map (some (w5.heap.size + 1))] 111) := ⟨_, rfl⟩
        have b2 : Hid (Below w5.heap.size w5 W2) := by rw [hW2]; exact ((below_one _ _).trans ((below_one _ _).mono (by simp))).trans ((below_one _ _).mono (by simp; omega))
        have HR2 : Hid (RingAt W2 (w5.heap.size + 2) w5.heap.size (w5.heap.size + 1) rg0) := by
          refine ⟨?_, by omega, ⟨[], ⟨by simp, #[], 0, ?_, rfl⟩, fun k => rfl⟩, ⟨[], ⟨by simp, #[], 0, ?_, rfl⟩, fun k => trivial⟩, fun k x hx => (by cases hx), fun b hb => False.elim hb⟩
          · rw [hW2]; simpa using heap_alloc_new ((w5.alloc (.map #[] 0)).alloc (.map #[] 0)) (.cells #[.map (some w5.heap.size), .map (some (w5.heap.size + 1))] 111)
          · rw [hW2, Below.heap_alloc _ _ _ (by simp; omega), Below.heap_alloc _ _ _ (by simp)]; exact heap_alloc_new w5 _
          · rw [hW2, Below.heap_alloc _ _ _ (by simp)]; simpa using heap_alloc_new (w5.alloc (.map #[] 0)) (.map #[] 0)
        go_wp2
        rw [← hW2]
        clear hW2
        go_loopg [41] 4 (fun kx s wq => ∃ k : Nat, s = .int .i64 k ∧ k ≤ 4 ∧ kx = 4 - k ∧ Hid (RingAt wq (w5.heap.size + 2) w5.heap.size (w5.heap.size + 1) (newTo l C k) ∧ Below w5.heap.size w5 wq))
        case atStart => exact ⟨0, rfl, Nat.zero_le _, rfl, (⟨HR2.out, b2.out⟩ : RingAt W2 (w5.heap.size + 2) w5.heap.size (w5.heap.size + 1) (newTo l C 0) ∧ Below w5.heap.size w5 W2)⟩
        case round =>
          obtain ⟨k, rfl, hk, rfl, HB⟩ := hrel
          clear HR2 b2
          by_cases hlt : k < 4
          · obtain ⟨gg, oo, e5, hgl, hxx, hc⟩ := (HC5.out.below (Nat.le_refl _) HB.out.2).one (v := Value.int .i64) (fun _ => rfl) (i := k) hlt
            simp at e5
            obtain ⟨rfl, rfl⟩ := e5
            simp only [Nat.zero_add] at hc
            have HQ5 : Hid (InIn wr (some ⟨g5, 0, none⟩) 4 C) := HC5.out.below (Nat.le_refl _) HB.out.2
            have HY : Hid (∃ y : Nat, C.getD k 0 = (y : Int) ∧ y < 4) := ⟨_, (HCk.out k hlt).1, by have h2 := (ix_spec (HCk.out k hlt).2).1; rw [HLL.out] at h2; exact h2⟩
            obtain ⟨y, hy, hy4⟩ := HY.out
            rw [hy] at hc
            have HYE : Hid (C.getD k 0 = (y : Int)) := hy
            obtain ⟨bi, oi, rfl, hbi, hiu, hci⟩ := (HI.out.below (Nat.le_refl _) (BW5.out.trans (HB.out.2.mono BW5.out.size))).one (v := Value.int .u64) (fun _ => rfl) (i := y) hy4
            clear hy HY hxx
            go_upto_region 16 with fail
            go_cut [11] (fun v wx => ∃ a6 c6, v = .slice a6 3 c6 ∧ Hid (InIn wx a6 3 (others C k) ∧ 3 ≤ c6 ∧ c6 ≤ 9223372036854775807 ∧ Below wr.heap.size wr wx))
            case first =>
              rcases (show k = 0 ∨ k = 1 ∨ k = 2 ∨ k = 3 by omega) with rfl | rfl | rfl | rfl
              · skip
                have hcn : ¬ c5 = 1 := by omega
                obtain ⟨W6, hW6⟩ : ∃ W6, W6 = (wr.alloc (.cells #[.slice (some ⟨g5, 1, none⟩) 3 (c5 - 1), .slice (some ⟨g5, 0, none⟩) 0 c5] 24)).drew := ⟨_, rfl⟩
                have b6 : Hid (Below wr.heap.size wr W6) := by rw [hW6]; exact below1d _ _
                have HCAT : Hid _ := concat_r wr.heap.size (some ⟨g5, 1, none⟩) 3 (c5 - 1) (C.drop 1) (some ⟨g5, 0, none⟩) 0 c5 (C.take 0) W6 (by rw [hW6]; simp) (by rw [hW6]; simp) (InRow.below (in_drop HQ5.out 1 3 rfl) (Nat.le_refl _) b6.out) (InRow.below (HQ5.out.take 0 (by omega)) (Nat.le_refl _) b6.out) (by simp) (by simp) rfl
                go_region_with ((go_at_call 80; rw [← hW6]; refine Calls.mono HCAT.out ?_; rintro e w6 ⟨a6, c6, rfl, h6, hc6, hd6, hn6, hf6, hb6⟩))
                all_goals
                  go_wp2
                  go_meet
                  exact ⟨a6, c6, rfl, (⟨h6, hc6, hd6, b6.out.trans (hb6.mono b6.out.size)⟩ : InIn w6 a6 3 (others C 0) ∧ 3 ≤ c6 ∧ c6 ≤ 9223372036854775807 ∧ Below wr.heap.size wr w6)⟩
              · skip
                have hcn : ¬ c5 = 2 := by omega
                obtain ⟨W6, hW6⟩ : ∃ W6, W6 = (wr.alloc (.cells #[.slice (some ⟨g5, 2, none⟩) 2 (c5 - 2), .slice (some ⟨g5, 0, none⟩) 1 c5] 24)).drew := ⟨_, rfl⟩
                have b6 : Hid (Below wr.heap.size wr W6) := by rw [hW6]; exact below1d _ _
                have HCAT : Hid _ := concat_r wr.heap.size (some ⟨g5, 2, none⟩) 2 (c5 - 2) (C.drop 2) (some ⟨g5, 0, none⟩) 1 c5 (C.take 1) W6 (by rw [hW6]; simp) (by rw [hW6]; simp) (InRow.below (in_drop HQ5.out 2 2 rfl) (Nat.le_refl _) b6.out) (InRow.below (HQ5.out.take 1 (by omega)) (Nat.le_refl _) b6.out) (by simp) (by simp) rfl
                go_region_with ((go_at_call 80; rw [← hW6]; refine Calls.mono HCAT.out ?_; rintro e w6 ⟨a6, c6, rfl, h6, hc6, hd6, hn6, hf6, hb6⟩))
                all_goals
                  go_wp2
                  go_meet
                  exact ⟨a6, c6, rfl, (⟨h6, hc6, hd6, b6.out.trans (hb6.mono b6.out.size)⟩ : InIn w6 a6 3 (others C 1) ∧ 3 ≤ c6 ∧ c6 ≤ 9223372036854775807 ∧ Below wr.heap.size wr w6)⟩
              · skip
                have hcn : ¬ c5 = 3 := by omega
                obtain ⟨W6, hW6⟩ : ∃ W6, W6 = (wr.alloc (.cells #[.slice (some ⟨g5, 3, none⟩) 1 (c5 - 3), .slice (some ⟨g5, 0, none⟩) 2 c5] 24)).drew := ⟨_, rfl⟩
                have b6 : Hid (Below wr.heap.size wr W6) := by rw [hW6]; exact below1d _ _
                have HCAT : Hid _ := concat_r wr.heap.size (some ⟨g5, 3, none⟩) 1 (c5 - 3) (C.drop 3) (some ⟨g5, 0, none⟩) 2 c5 (C.take 2) W6 (by rw [hW6]; simp) (by rw [hW6]; simp) (InRow.below (in_drop HQ5.out 3 1 rfl) (Nat.le_refl _) b6.out) (InRow.below (HQ5.out.take 2 (by omega)) (Nat.le_refl _) b6.out) (by simp) (by simp) rfl
                go_region_with ((go_at_call 80; rw [← hW6]; refine Calls.mono HCAT.out ?_; rintro e w6 ⟨a6, c6, rfl, h6, hc6, hd6, hn6, hf6, hb6⟩))
                all_goals
                  go_wp2
                  go_meet
                  exact ⟨a6, c6, rfl, (⟨h6, hc6, hd6, b6.out.trans (hb6.mono b6.out.size)⟩ : InIn w6 a6 3 (others C 2) ∧ 3 ≤ c6 ∧ c6 ≤ 9223372036854775807 ∧ Below wr.heap.size wr w6)⟩
              · by_cases hq5 : c5 = 4
                · subst hq5
                  obtain ⟨W6, hW6⟩ : ∃ W6, W6 = (wr.alloc (.cells #[.slice (some ⟨g5, 0, none⟩) 0 0, .slice (some ⟨g5, 0, none⟩) 3 4] 24)).drew := ⟨_, rfl⟩
                  have b6 : Hid (Below wr.heap.size wr W6) := by rw [hW6]; exact below1d _ _
                  have HCAT : Hid _ := concat_r wr.heap.size (some ⟨g5, 0, none⟩) 0 0 (C.drop 4) (some ⟨g5, 0, none⟩) 3 4 (C.take 3) W6 (by rw [hW6]; simp) (by rw [hW6]; simp) (InRow.below (by rw [List.drop_of_length_le (Nat.le_of_eq HCl.out)]; exact in_empty) (Nat.le_refl _) b6.out) (InRow.below (HQ5.out.take 3 (by omega)) (Nat.le_refl _) b6.out) (by simp) (by simp) rfl
                  go_region_with ((go_at_call 80; rw [← hW6]; refine Calls.mono HCAT.out ?_; rintro e w6 ⟨a6, c6, rfl, h6, hc6, hd6, hn6, hf6, hb6⟩))
                  all_goals
                    go_wp2
                    go_meet
                    exact ⟨a6, c6, rfl, (⟨h6, hc6, hd6, b6.out.trans (hb6.mono b6.out.size)⟩ : InIn w6 a6 3 (others C 3) ∧ 3 ≤ c6 ∧ c6 ≤ 9223372036854775807 ∧ Below wr.heap.size wr w6)⟩
                · skip
                  obtain ⟨W6, hW6⟩ : ∃ W6, W6 = (wr.alloc (.cells #[.slice (some ⟨g5, 4, none⟩) 0 (c5 - 4), .slice (some ⟨g5, 0, none⟩) 3 c5] 24)).drew := ⟨_, rfl⟩
                  have b6 : Hid (Below wr.heap.size wr W6) := by rw [hW6]; exact below1d _ _
                  have HCAT : Hid _ := concat_r wr.heap.size (some ⟨g5, 4, none⟩) 0 (c5 - 4) (C.drop 4) (some ⟨g5, 0, none⟩) 3 c5 (C.take 3) W6 (by rw [hW6]; simp) (by rw [hW6]; simp) (InRow.below (by rw [List.drop_of_length_le (Nat.le_of_eq HCl.out)]; exact in_empty) (Nat.le_refl _) b6.out) (InRow.below (HQ5.out.take 3 (by omega)) (Nat.le_refl _) b6.out) (by simp) (by simp) rfl
                  go_region_with ((go_at_call 80; rw [← hW6]; refine Calls.mono HCAT.out ?_; rintro e w6 ⟨a6, c6, rfl, h6, hc6, hd6, hn6, hf6, hb6⟩))
                  all_goals
                    go_wp2
                    go_meet
                    exact ⟨a6, c6, rfl, (⟨h6, hc6, hd6, b6.out.trans (hb6.mono b6.out.size)⟩ : InIn w6 a6 3 (others C 3) ∧ 3 ≤ c6 ∧ c6 ≤ 9223372036854775807 ∧ Below wr.heap.size wr w6)⟩
            case rest =>
              obtain ⟨a6, c6, rfl, HX⟩ := hcut
              obtain ⟨h6', hc6, hd6, hb6⟩ := HX.out
              obtain ⟨bo, oo6, rfl, hbo, hop, hco⟩ := h6'.one (v := Value.int .i64) (fun _ => rfl) (i := 2) (by omega)
              have R6 : Hid (RingAt wc (w5.heap.size + 2) w5.heap.size (w5.heap.size + 1) (newTo l C k)) := HB.out.1.below hb6
              have P6 : Hid (PeIn wc (l.getD y 0) ((others C k).getD 2 0) (some ⟨bo, oo6, none⟩) 3 c6 (others C k)) := ⟨hiu, hop, h6', hc6, hd6, by simp⟩
              have B6 : Hid (Below w5.heap.size w5 wc) := HB.out.2.trans (hb6.mono HB.out.2.size)
              have hci := cell_grown hci hb6
              have hbi : bi < wc.heap.size := by have := hb6.size; omega
              have HNX : Hid (newTo l C (k + 1) = ((newTo l C k).setP y (l.getD y 0)).setK y ⟨l.getD y 0, (others C k).getD 2 0, others C k⟩) := by
                show newTo l C (k + 1) = _
                rw [newTo_succ, HYE.out]; rfl
              generalize l.getD y 0 = idy at hci P6 HNX
              generalize (others C k).getD 2 0 = pdy at hco P6 HNX
              clear h6' hc6 hd6 hb6 hiu hop hc HQ5 HX
              go_upto_region 17 with fail
              go_region_with ((go_at_call 76; refine (add_r (w5.heap.size + 2) w5.heap.size (w5.heap.size + 1) (newTo l C k) y ⟨idy, pdy, others C k⟩ (some ⟨bo, oo6, none⟩) 3 c6 wc.drew (R6.out.drew (wc.drawn + 1)) (P6.out.below (Nat.le_refl _) (show Below wc.heap.size wc wc.drew from ⟨rfl, rfl, rfl, Nat.le_refl _, fun _ _ => rfl⟩)) (fun x _ hc => newTo_cl l C k x.block hc)).mono ?_; rintro e w7 ⟨rfl, h7, k7⟩))
              all_goals
                have HZ : Hid (RingAt w7 (w5.heap.size + 2) w5.heap.size (w5.heap.size + 1) (newTo l C (k + 1)) ∧ Below w5.heap.size w5 w7) := ⟨by rw [HNX.out]; exact h7, B6.out.trans (((Kp.drawn wc (wc.drawn + 1) w5.heap.size (w5.heap.size + 1)).trans k7).below (Nat.le_refl _) (by omega) B6.out.size)⟩
                clear h7 k7
                go_wp2
                go_roundg (4 - (k + 1))
                case measure => omega
                case rel => exact ⟨k + 1, by go_num, by omega, rfl, HZ⟩
          · obtain rfl : k = 4 := by omega
            go_wp2
            go_ret2
            exact ⟨.inr ⟨S, w5.heap.size + 2, w5.heap.size, w5.heap.size + 1, HS.out.1, HS.out.2, HS4.out, rfl, by rw [← HCd.out]; exact HB.out.1, by have := BW5.out.size; omega, BW5.out.size, by have := BW5.out.size; omega⟩, BW5.out.trans (HB.out.2.mono BW5.out.size)⟩
end Go.Proofs.YtmajlldfiiokoaaGreatDoor
