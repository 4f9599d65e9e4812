/- rdv.Keepers. -/
import Derived.Test.YtmajlldfiiokoaaGreatDoorJoinIdCat
import Derived.Test.YtmajlldfiiokoaaGreatDoorJoinTrMath
import Derived.RangeFuncBox
import Derived.RangeFuncLeaves
import Derived.Shelf.Abstract
import Derived.WalkKit
import Derived.OwnWalkIn
import Derived.TacticsInMore
import Derived.LoopNIn
import Derived.LoopIn
import Derived.Maps.AppendAt
import Derived.Test.YtmajlldfiiokoaaGreatDoorJoinPrInts
import Derived.Test.YtmajlldfiiokoaaGreatDoorJoinOwnSrc3
import Derived.Test.YtmajlldfiiokoaaGreatDoorShelfT
import Derived.Test.YtmajlldfiiokoaaGreatDoorJoinLinMath
import Derived.Sort.OwnSorted
import Derived.Test.YtmajlldfiiokoaaGreatDoorJoinChMap
import Derived.Test.YtmajlldfiiokoaaGreatDoorJoinRfC2
import Derived.Test.YtmajlldfiiokoaaGreatDoorJoinIdOwn
set_option linter.unnecessarySimpa false
namespace Go.Proofs.YtmajlldfiiokoaaGreatDoor
open Go.ChangeShapes Go.WideShapes Go.ChangeAt Go.RowKit Go.Deep
set_option linter.unusedVariables false

/-- The owner, at k of the circle, and the two behind it. -/
def keepL (C : List Int) (k : Nat) : List Int := C.getD k 0 :: (C.drop (k + 1) ++ C.take k).take 2
theorem keepL_len {C : List Int} {k : Nat} (h : 4 ≤ C.length) (hk : k < C.length) : (keepL C k).length = 3 := by
  unfold keepL
  simp
  omega
theorem keepL_sub {C : List Int} {k : Nat} (hk : k < C.length) {x : Int} (hx : x ∈ keepL C k) : x ∈ C := by
  unfold keepL at hx
  rcases List.mem_cons.1 hx with e | hx
  · rw [e, List.getD_eq_getElem?_getD, List.getElem?_eq_getElem hk]; simp
  · rcases List.mem_append.1 (List.mem_of_mem_take hx) with h | h
    · exact List.mem_of_mem_drop h
    · exact List.mem_of_mem_take h

set_option maxRecDepth 100000 in
set_option maxHeartbeats 4000000 in
theorem keepers_new {R : Rg} (hi : Inv R) {C : List Int} (hC : Cir R C) (g c d n k : Nat) (b : Option Addr) (s : ByteArray) (w : World) (hm : InIn w (some ⟨g, 0, none⟩) n C) (hc1 : n ≤ c) (hc2 : c ≤ 9223372036854775807) (hp : IdIn w b n (C.map R.idOf)) (h4 : 4 ≤ n) (h32 : n ≤ 32)
    (hk : ownerN (C.map R.idOf) (gkeyT s) = (k : Int)) (hkn : k < n) (hs : s.size ≤ 200) :
    Calls Tryz.prog 29 #[.agg #[.slice (some ⟨g, 0, none⟩) n c, .slice b n d], .string s] w fun e w' => (∃ a c3, e = .returned (.slice a 3 c3) ∧ InIn w' a 3 (keepL C k) ∧ ∀ x, a = some x → w.heap.size ≤ x.block) ∧ Below w.heap.size w w' := by
  obtain ⟨i0, hif, hz0, hz1, hz2⟩ := info_of Tryz.infoInt
  have hlen : C.length = n := hm.1
  obtain ⟨q, hq⟩ : ∃ q, q = w.heap.size := ⟨_, rfl⟩
  obtain ⟨W, hW⟩ : ∃ W, W = w.alloc (.cells #[.slice (some ⟨g, 0, none⟩) n c, .slice b n d] 50) := ⟨_, rfl⟩
  have bW : Below w.heap.size w W := by rw [hW]; exact below_one _ _
  have c0 : W.cell? ⟨q, 0, none⟩ = some (.slice (some ⟨g, 0, none⟩) n c) := by rw [hW, hq]; exact World.cell?_alloc_new ..
  have c1 : W.cell? ⟨q, 1, none⟩ = some (.slice b n d) := by rw [hW, hq]; simp
  have cl := cell_block c0
  have HM : Hid (InIn W (some ⟨g, 0, none⟩) n C ∧ IdIn W b n (C.map R.idOf) ∧ Below w.heap.size w W) := ⟨hm.below (Nat.le_refl _) bW, hp.below (Nat.le_refl _) bW, bW⟩
  have HK : Hid (ownerN (C.map R.idOf) (gkeyT s) = (k : Int) ∧ k < n ∧ s.size ≤ 200 ∧ n ≤ c ∧ c ≤ 9223372036854775807 ∧ 4 ≤ n ∧ n ≤ 32 ∧ C.length = n) := ⟨hk, hkn, hs, hc1, hc2, h4, h32, hlen⟩
  have hin : ∀ x ∈ C, 0 ≤ x ∧ x < 32 := fun x hx => hi.rng x ((hC.mem x).1 hx)
  have HIN : Hid (∀ x ∈ C, 0 ≤ x ∧ x < 32) := hin
  have hmin : ∀ j, j < k → C.getD j 0 ≠ C.getD k 0 := fun j hj e => by
    have hjn : j < C.length := by omega
    have hkn2 : k < C.length := by omega
    have := (List.pairwise_iff_getElem.1 hC.rise) j k hjn hkn2 hj
    rw [List.getD_eq_getElem?_getD, List.getD_eq_getElem?_getD, List.getElem?_eq_getElem hjn, List.getElem?_eq_getElem hkn2] at e
    have e : C[j] = C[k] := e
    rw [e] at this
    omega
  have HMN : Hid (∀ j, j < k → C.getD j 0 ≠ C.getD k 0) := hmin
  have ho : 0 ≤ C.getD k 0 ∧ C.getD k 0 < 32 := hin _ (by rw [List.getD_eq_getElem?_getD, List.getElem?_eq_getElem (show k < C.length by omega)]; simp)
  obtain ⟨o, hoe⟩ : ∃ o, o = C.getD k 0 := ⟨_, rfl⟩
  rw [← hoe] at ho
  have HO : Hid (o = C.getD k 0 ∧ 0 ≤ o ∧ o < 32) := ⟨hoe, ho⟩
  have hon : (o == -1) = false := by simp; omega
  clear hm hp bW hk hs hlen hin hmin hoe ho hc1 hc2 h4 h32 hkn
  obtain ⟨ι, F, _, hF0, hFb, hFc⟩ := grown_fam W
  have g0 : ∀ i, (F i).cell? ⟨q, 0, none⟩ = _ := fun i => cell_grown c0 (hFb i)
  have g1 : ∀ i, (F i).cell? ⟨q, 1, none⟩ = _ := fun i => cell_grown c1 (hFb i)
  have HF : Hid ((∃ i, { W with drawn := W.drawn + 1 } = F i) ∧ (∀ i, Below W.heap.size W (F i))) := ⟨hF0, hFb⟩
  have HFK : Hid (∀ i, Calls Tryz.prog 34 #[.string s] (F i) fun e w' => e = .returned (.int .u64 (gkeyT s)) ∧ ∃ k, w' = F k) := fun i =>
    (gkey_t s (F i) HK.out.2.2.1).mono (fun e w' z => ⟨z.1, i, z.2⟩)
  have HFO : Hid (∀ i, Calls Tryz.prog 33 #[.agg #[.slice (some ⟨g, 0, none⟩) n c, .slice b n d], .int .u64 (gkeyT s)] (F i) fun e w' => e = .returned (.int .i64 o) ∧ ∃ k, w' = F k) := fun i =>
    (cowner_r R C g c d n k b (gkeyT s) (F i) (HM.out.1.below (Nat.le_refl _) (hFb i)) (HM.out.2.1.below (Nat.le_refl _) (hFb i)) HK.out.2.2.2.2.2.1 HK.out.1 HK.out.2.1).mono (fun e w' z => ⟨by rw [z.1, HO.out.1], hFc i w' (z.2.mono (hFb i).size)⟩)
  clear hF0 hFb hFc
  go_enter Tryz.func29, Tryz.ntmps29
  go_upto_region 1 with fail
  rw [← hW]
  try rw [← hq]
  clear hW hq
  go_cut [5] (fun v wx => v = .int .i64 o ∧ Hid (Below W.heap.size W wx))
  case first =>
    refine wp_region_fam F HF.out.1 (by kernel_rfl) (by kernel_rfl) ?_
    repeat (go_big_quiet_step (first
      | (go_at_call 34; exact HFK.out _)
      | (go_at_call 33; exact HFO.out _)))
    refine wpQuiet_nil ?_
    rintro _ ⟨i, rfl⟩
    have HB7 := HF.out.2 i
    go_wp2
    go_meet
    exact ⟨rfl, HB7⟩
  case rest =>
    rename World => W2
    obtain ⟨rfl, HB⟩ := hcut
    clear g0 g1 HF HFK HFO
    replace c0 := cell_grown c0 HB.out
    replace c1 := cell_grown c1 HB.out
    replace cl := cell_block c0
    go_wp2_with fail
    have HPC : Hid _ := cpeer_r R C g c d n k b W2 (HM.out.1.below (Nat.le_refl _) HB.out) HK.out.2.2.2.1 HK.out.2.2.2.2.1 (HM.out.2.1.below (Nat.le_refl _) HB.out) HK.out.2.2.2.2.2.1 HK.out.2.2.2.2.2.2.1 HK.out.2.1 HMN.out
    rw [← HO.out.1] at HPC
    refine Calls.mono HPC.out ?_
    clear HPC
    rintro e w3 ⟨a2, c2, rfl, hsu, h3c, b3⟩
    obtain ⟨W4, hW4⟩ : ∃ W4, W4 = w3.alloc (.cells #[.int .u64 (idPe R C k).id, .int .i64 (idPe R C k).pred, .slice a2 3 c2] 80) := ⟨_, rfl⟩
    obtain ⟨q4, hq4⟩ : ∃ q4, q4 = w3.heap.size := ⟨_, rfl⟩
    have b4 : Below w3.heap.size w3 W4 := by rw [hW4]; exact below_one _ _
    have d2 : W4.cell? ⟨q4, 2, none⟩ = some (.slice a2 3 c2) := by rw [hW4, hq4]; simp
    have d0 : W4.cell? ⟨q4, 0, none⟩ = some (.int .u64 (idPe R C k).id) := by rw [hW4, hq4]; exact World.cell?_alloc_new ..
    have dl := cell_block d0
    have H4 : Hid (Below w.heap.size w W4 ∧ InIn W4 a2 3 (idPe R C k).succ) := by
      have e1 := HM.out.2.2.trans (HB.out.mono HM.out.2.2.size)
      have e2 := e1.trans (b3.mono e1.size)
      exact ⟨e2.trans (b4.mono e2.size), hsu.below (Nat.le_refl _) b4⟩
    have hc2m : (2 : Nat) ≤ c2 := by omega
    have hc2I : (2 : Int) ≤ (c2 : Int) := by omega
    clear b3 b4 hsu c0 c1 cl HB
    go_upto_region 5 with fail
    rw [← hW4]
    try rw [← hq4]
    clear hW4 hq4
    have H5 : Hid (InIn (W4.alloc (.cells #[.int .i64 o] 3)) a2 2 ((C.drop (k + 1) ++ C.take k).take 2)) := by
      have h := (H4.out.2.below (Nat.le_refl _) (below_one W4 (.cells #[.int .i64 o] 3))).take 2 (by omega)
      have e : (idPe R C k).succ.take 2 = (C.drop (k + 1) ++ C.take k).take 2 := by
        show ((C.drop (k + 1) ++ C.take k).take 3).take 2 = _
        rw [List.take_take]; rfl
      rw [e] at h
      exact h
    have HB2 : Hid ((W4.alloc (.cells #[.int .i64 o] 3)).ownsRow w.heap.size 3 1 (.slice (some ⟨W4.heap.size, 0, none⟩) 1 1) 1 [cellI o]) := one_row o H4.out.1.size
    have HSR : Hid (∀ c9, Src Tryz.prog 1 24 (.slice a2 2 c9) 2 (((C.drop (k + 1) ++ C.take k).take 2).map cellI) (W4.alloc (.cells #[.int .i64 o] 3))) := fun c9 => src_ints H5.out (fun e => by
      have := H5.out.2.2
      subst e
      rcases this with h | h
      · omega
      · obtain ⟨_, _, h, _⟩ := h; cases h)
    have HSz : Hid (w.heap.size ≤ W4.heap.size) := H4.out.1.size
    go_wp2_with (at_builtin; go_loud (refine wpList_own_append _ rfl _ _ 24 24 rfl w.heap.size 3 i0 _ 8 Tryz.underlying24 hif hz0 hz1 hz2 rfl _ _ _ rfl HB2.out _ 2 _ rfl (HSR.out _) (by unfold maxLen; omega) (by omega) (by have := HSz.out; simp; omega) ?_))
    intro v' w7 ha
    obtain ⟨x7, k7, rfl⟩ := ha.shape
    have H7 : Hid (InIn w7 x7 3 (keepL C k) ∧ Below w.heap.size w w7 ∧ ∀ x, x7 = some x → w.heap.size ≤ x.block) := by
      have hro := ha.row
      have e : cellI o :: List.take 2 (List.drop (k + 1) (List.map cellI C) ++ List.take k (List.map cellI C)) = (keepL C k).map cellI := by
        unfold keepL; rw [HO.out.1]; simp [List.map_take, List.map_drop]
      rw [e] at hro
      refine ⟨in_of_own hro (fun x hx => ?_) (by omega), ?_, fun x hx => ?_⟩
      · have hx2 := HIN.out x (keepL_sub (by have := HK.out.2.1; have := HK.out.2.2.2.2.2.2.2; omega) hx)
        unfold i64; omega
      · have b := H4.out.1.alloc H4.out.1.size (.cells #[.int .i64 o] 3)
        exact b.grown ha.grown b.size (fun k hk => (World.ownsRow.lt HB2.out k hk).1)
      · rcases hro.2 with ⟨_, h0⟩ | ⟨gg, cap, cur, hv, hbg, _⟩
        · omega
        · simp only [Value.slice.injEq] at hv
          rw [hv.1] at hx
          cases hx
          exact hbg
    clear ha HB2 HSR HSz H5
    go_wp2
    go_ret
    exact ⟨⟨_, _, rfl, H7.out.1, H7.out.2.2⟩, H7.out.2.1⟩
theorem keepers_r {R : Rg} (hi : Inv R) {C : List Int} (hC : Cir R C) (g c d n k : Nat) (b : Option Addr) (s : ByteArray) (w : World) (hm : InIn w (some ⟨g, 0, none⟩) n C) (hc1 : n ≤ c) (hc2 : c ≤ 9223372036854775807) (hp : IdIn w b n (C.map R.idOf)) (h4 : 4 ≤ n) (h32 : n ≤ 32)
    (hk : ownerN (C.map R.idOf) (gkeyT s) = (k : Int)) (hkn : k < n) (hs : s.size ≤ 200) :
    Calls Tryz.prog 29 #[.agg #[.slice (some ⟨g, 0, none⟩) n c, .slice b n d], .string s] w fun e w' => (∃ a c3, e = .returned (.slice a 3 c3) ∧ InIn w' a 3 (keepL C k)) ∧ Below w.heap.size w w' :=
  (keepers_new hi hC g c d n k b s w hm hc1 hc2 hp h4 h32 hk hkn hs).mono (fun e w' h => by
    obtain ⟨⟨a, c3, h1, h2, _⟩, h3⟩ := h
    exact ⟨⟨a, c3, h1, h2⟩, h3⟩)
end Go.Proofs.YtmajlldfiiokoaaGreatDoor

/- slices.Values, slices.Collect, slices.AppendSeq of ints. -/
namespace Go.Proofs.YtmajlldfiiokoaaGreatDoor
open Go.RowKit Go.Shelf
attribute [local go_sem] Oper.semAt_some
set_option linter.unusedVariables false

/-- What has come when k rounds are over. -/
def upto {α : Type} (f : Nat → α) (k : Nat) : List α := (List.range k).map f
theorem upto_succ {α : Type} (f : Nat → α) (k : Nat) : upto f (k + 1) = upto f k ++ [f k] := by simp [upto, List.range_succ]
theorem upto_length {α : Type} (f : Nat → α) (k : Nat) : (upto f k).length = k := by simp [upto]

theorem uptoI_all (zs : List Int) : upto (fun j => zs[j]?.getD 0) zs.length = zs := by
  apply List.ext_getElem
  · simp [upto]
  · intro i h1 h2
    simp [upto, h2]
theorem uptoI_take (zs : List Int) {k : Nat} (hk : k ≤ zs.length) : upto (fun j => zs[j]?.getD 0) k = zs.take k := by
  apply List.ext_getElem
  · simp [upto, hk]
  · intro i h1 h2
    have : i < zs.length := by simp [upto] at h1; omega
    simp [upto, this]
set_option maxRecDepth 100000 in
set_option maxHeartbeats 2000000 in
theorem values1I_in (F : Fence) (n : Nat) (h7 : F.fn 162) (hro : F.round = none) (hn : 1 ≤ n) (l Bs n₀ b off len cap : Nat) (zs : List Int) (hreach : len * 8 ≤ 140737488351232) (hb : b < n₀) (J Jx : List Int → World → Prop)
    (hY : ∀ pre x W, J pre W → pre.length < len → YieldAt F (n - 1) Tryz.prog l #[Value.int .i64 x] W fun e W' =>
      (e = .returned (.bool true) ∧ J (pre ++ [x]) W' ∧ Below n₀ W W') ∨ (e = .returned (.bool false) ∧ Jx (pre ++ [x]) W'))
    (W : World) (hBs : W.cell? ⟨Bs, 0, none⟩ = some (.slice (some ⟨b, off, none⟩) len cap)) (hc : ∀ j, j < len → W.cell? ⟨b, off + j, none⟩ = some (Value.int .i64 (zs[j]?.getD 0))) (h0 : J [] W) :
    CallsIn F n Tryz.prog 162 #[.func (.yield l) #[] #[], .pointer (some ⟨Bs, 0, none⟩)] W fun e W' => (∃ v, e = .returned v) ∧
      ((∃ ys, ys = upto (fun j => zs[j]?.getD 0) len ∧ J ys W') ∨ (∃ pre, (∃ k, k ≤ len ∧ pre = upto (fun j => zs[j]?.getD 0) k) ∧ Jx pre W')) := by
  refine callsIn_of_wp Tryz.func162 rfl h7 ?_ hro
  simp only [Tryz.ntmps162, List.size_toArray, List.length_cons, List.length_nil, Nat.reduceAdd, Nat.reduceSub, Array.replicate_succ, Array.replicate_zero, List.push_toArray, List.append_toArray, List.nil_append, List.cons_append]
  gi_wp2
  gi_loopw [7] (fun i wr => ∃ k : Nat, k ≤ len ∧ i = .int .i64 k ∧ J (upto (fun j => zs[j]?.getD 0) k) wr ∧ Below n₀ W wr)
    (fun i _ => len - (intOf i).toNat)
  case atStart => exact ⟨0, Nat.zero_le _, rfl, h0, Below.refl _ _⟩
  case round =>
    obtain ⟨k, hk, rfl, hJs, hnx⟩ := hrel
    have hcx : k < len → wr.cell? ⟨b, off + k, none⟩ = some (Value.int .i64 (zs[k]?.getD 0)) := fun h => (hnx.cell (p := ⟨b, off + k, none⟩) hb).trans (hc k h)
    by_cases hlt : k < len
    · obtain ⟨fn, tmps, assign, body, hy, hR⟩ := hY _ (zs[k]?.getD 0) wr hJs (by rw [upto_length]; exact hlt)
      have hcx' := hcx hlt
      gi_wp2
      refine hR.mono ?_
      rintro e W3 (⟨rfl, hJ3, hk3⟩ | ⟨rfl, hJx3⟩)
      · gi_wp2
        go_roundw
        case rel => exact ⟨k + 1, by omega, by simp, by rw [upto_succ]; exact hJ3, hnx.trans hk3⟩
        case measure => simp [intOf]; omega
      · gi_wp2
        refine bodyPost_ret (results_none rfl _ _ _) rfl ?_
        exact ⟨⟨_, rfl⟩, .inr ⟨_, ⟨k + 1, by omega, (upto_succ _ _).symm⟩, hJx3⟩⟩
    · obtain rfl : k = len := by omega
      gi_wp2
      go_end0
      exact ⟨⟨_, rfl⟩, .inl ⟨_, rfl, hJs⟩⟩
/-- A slice's elements, in a block below n₀; or none. -/
def ElsI (n₀ : Nat) (W : World) (sv : Value) (zs : List Int) : Prop :=
  (∃ a c, sv = .slice a 0 c ∧ zs = []) ∨ ∃ b off cap, sv = .slice (some ⟨b, off, none⟩) zs.length cap ∧ b < n₀ ∧ ∀ j, j < zs.length → W.cell? ⟨b, off + j, none⟩ = some (Value.int .i64 (zs[j]?.getD 0))
theorem ElsI.below {n₀ : Nat} {A B : World} (h : Below n₀ A B) {sv : Value} {zs : List Int} : ElsI n₀ A sv zs → ElsI n₀ B sv zs
  | .inl e => .inl e
  | .inr ⟨b, off, cap, e, hb, hc⟩ => .inr ⟨b, off, cap, e, hb, fun j hj => (h.cell (p := ⟨b, off + j, none⟩) hb).trans (hc j hj)⟩
set_option maxRecDepth 100000 in
set_option maxHeartbeats 1000000 in
theorem values1I_nil_in (F : Fence) (n : Nat) (h7 : F.fn 162) (hro : F.round = none) (l Bs c : Nat) (a : Option Addr) (J : List Int → World → Prop) (W : World) (hBs : W.cell? ⟨Bs, 0, none⟩ = some (.slice a 0 c)) (h0 : J [] W) :
    CallsIn F n Tryz.prog 162 #[.func (.yield l) #[] #[], .pointer (some ⟨Bs, 0, none⟩)] W fun e W' => (∃ v, e = .returned v) ∧ J [] W' := by
  refine callsIn_of_wp Tryz.func162 rfl h7 ?_ hro
  simp only [Tryz.ntmps162, List.size_toArray, List.length_cons, List.length_nil, Nat.reduceAdd, Nat.reduceSub, Array.replicate_succ, Array.replicate_zero, List.push_toArray, List.append_toArray, List.nil_append, List.cons_append]
  gi_wp2
  gi_loopw [7] (fun i wr => i = .int .i64 0 ∧ J [] wr) (fun _ _ => 0)
  case atStart => exact ⟨rfl, h0⟩
  case round =>
    obtain ⟨rfl, hJs⟩ := hrel
    gi_wp2
    go_end0
    exact ⟨⟨_, rfl⟩, hJs⟩
theorem valuesI_stops (F : Fence) (n : Nat) (h7 : F.fn 162) (hro : F.round = none) (hn : 1 ≤ n) (Bs n₀ : Nat) (sv : Value) (zs : List Int) (hreach : zs.length * 8 ≤ 140737488351232) (w : World) (hBs : Bs < w.heap.size) (hn₀ : n₀ ≤ w.heap.size)
    (hc : w.cell? ⟨Bs, 0, none⟩ = some sv) (hI : ElsI n₀ w sv zs) :
    SeqStopsK F n Tryz.prog 162 #[.pointer (some ⟨Bs, 0, none⟩)] (fun x : Int => #[Value.int .i64 x]) (Below n₀) (fun ys => ys = zs) (fun pre => pre <+: zs) zs.length w := fun l J Jx W hW _ _ hY h0 => by
  have hc' := (hW.cell (p := ⟨Bs, 0, none⟩) hBs).trans hc
  rcases hI.below (hW.mono hn₀) with ⟨a, c, rfl, rfl⟩ | ⟨b, off, cap, rfl, hb, hcs⟩
  · exact (values1I_nil_in F n h7 hro l Bs c a J W hc' h0).mono fun e W' ⟨he, hj⟩ => ⟨he, .inl ⟨_, rfl, hj⟩⟩
  · refine (values1I_in F n h7 hro hn l Bs n₀ b off zs.length cap zs hreach hb J Jx hY W hc' hcs h0).mono ?_
    rintro e W' ⟨he, ⟨ys, rfl, hj⟩ | ⟨pre, ⟨k, hk, rfl⟩, hj⟩⟩
    · exact ⟨he, .inl ⟨_, uptoI_all zs, hj⟩⟩
    · exact ⟨he, .inr ⟨_, by rw [uptoI_take zs hk]; exact List.take_prefix _ _, hj⟩⟩
theorem Tryz.infoItI : (Tryz.prog.info? 3).map (fun i => (i.zero, i.size, i.bytes)) = some (some (.int .i64 0), 1, 8) := by kernel_rfl
set_option maxRecDepth 100000 in
set_option maxHeartbeats 4000000 in
theorem appendseqI_in (F : Fence) (n : Nat) (h3 : F.fn 196) (h5 : F.fn 162) (hro : F.round = none) (hn : 3 ≤ n) (Bs n₀ : Nat) (sv : Value) (xs : List Int) (hbytes : xs.length * 8 ≤ 140737488351232) (w : World) (hBs : Bs < w.heap.size) (hn₀ : n₀ ≤ w.heap.size) (hc0 : w.cell? ⟨Bs, 0, none⟩ = some sv) (hI : ElsI n₀ w sv xs) :
    CallsIn F n Tryz.prog 196 #[.slice none 0 0, .func (.func 162) #[] #[.pointer (some ⟨Bs, 0, none⟩)]] w fun e W' => ∃ v, e = .returned v ∧ W'.ownsRow w.heap.size 3 1 v xs.length (xs.map (Value.int .i64)) ∧ Below w.heap.size w W' := by
  have h1 : 1 ≤ n := by omega
  obtain ⟨i0, hi, hz0, hz1, hz2⟩ := info_parts Tryz.infoItI
  refine callsIn_of_wp_marks Tryz.func196 rfl h3 ?_ hro
  simp only [Tryz.ntmps196, List.size_toArray, List.length_cons, List.length_nil, Nat.reduceAdd, Nat.reduceSub, Array.replicate_succ, Array.replicate_zero, List.push_toArray, List.append_toArray, List.nil_append, List.cons_append]
  gi_wp2
  have bO := Boxed.new w 24 (.slice none 0 0)
  have hB0 : Below w.heap.size w (w.alloc (.cells #[.slice none 0 0] 24)) := (Below.refl _ w).alloc (Nat.le_refl _) _
  have hc1 : (w.alloc (.cells #[.slice none 0 0] 24)).cell? ⟨Bs, 0, none⟩ = some sv := (hB0.cell (p := ⟨Bs, 0, none⟩) hBs).trans hc0
  refine wpIn_rangeFunc_ownG hro h1 (gf := 162) (lb := #[.pointer (some ⟨Bs, 0, none⟩)]) rfl h5 (enters_of Tryz.func162 (by kernel_rfl) rfl)
    (valuesI_stops F (n - 1) h5 hro (by omega) Bs n₀ sv xs hbytes _ (by simp; omega) (by simp; omega) hc1 (hI.below (hB0.mono hn₀))) belowK_t (belowK_b (by simp; omega)) (Below.refl _ _) (fun _ => rfl)
    (fun pre W => (∃ v, Boxed W w.heap.size 24 v ∧ W.ownsRow w.heap.size 3 1 v pre.length (pre.map (Value.int .i64)) ∧ (v = .slice none 0 0 ↔ pre = [])) ∧ Below w.heap.size w W)
    (fun _ _ _ => False)
    (OwnFrom.and (Own.from (holdsRow_own w.heap.size w.heap.size 24 3 1 (fun pre => pre.length) (fun pre => pre.map (Value.int .i64)) (fun pre v => v = .slice none 0 0 ↔ pre = [])) _) (ownFrom_below (Nat.le_refl _) (by simp)))
    (fun _ _ _ _ _ hs _ _ => hs)
    ⟨⟨_, bO, World.ownsRow_nil _ _ _ _, by simp⟩, hB0⟩
    (fun x => { tmps := #[.slice none 0 0, .func (.func 162) #[] #[.pointer (some ⟨Bs, 0, none⟩)], .pointer (some ⟨w.heap.size, 0, none⟩), undef, .slice none 0 0, Value.int .i64 x, .func (.func 162) #[] #[.pointer (some ⟨Bs, 0, none⟩)], Value.int .i64 x, undef, undef, undef, undef, undef], defers := [] }) ?assign ?body ?done ?stop
  case assign =>
    intro l x W K hK
    gi_wp2
    exact hK
  case body =>
    rintro l pre x W ⟨⟨v, hv, hrow, hnil⟩, hB⟩ hlt
    have hc := hv.cell
    gi_wp2_with (gi_at_builtin; refine wpListIn_append_own _ rfl _ _ 24 rfl w.heap.size 3 i0 (.int .i64 0) 1 8 Tryz.underlying24 hi hz0 hz1 hz2 rfl (by decide) _ _ _ rfl (hrow.alloc _) ⟨W.heap.size, 0, none⟩ 1 1 [Value.int .i64 x] rfl rfl (cell_one_new _ _ _) (by simp [Value.oneCell']) (by unfold maxLen; omega) (by omega) (by have := hB.size; simp; omega) ?_; intro v' w1 hown' hgrow _; obtain ⟨g', cap', rfl⟩ := ownsRow_succ hown'; obtain ⟨hv1, hv2, hr2, hk2, hb2⟩ := hv.appended (by decide) hrow hB.size (Nat.le_refl _) hown' hgrow; have hc1 := hv1.cell; have hf1 := hv1.frozen)
    exact ⟨hk2.from _, hb2.mono hn₀, ⟨_, hv2, by simpa using hr2, by simp⟩, hB.trans hb2⟩
  case done =>
    rintro D ys W hD rfl ⟨⟨v, hv, hrow, hnil⟩, hB⟩ hK
    have hc := hv.cell
    gi_wp2
    refine ⟨by simp, .inl ⟨_, _, rfl, run_takeDeferred hK, ?_⟩⟩
    exact ⟨_, results_tmp rfl _ _ _, v, rfl, ownsRow_putObj hrow _ hK rfl, hB.trans (belowK_b (w := w) (Nat.le_refl _) W D _ _ (by simp at hD; omega) hK rfl rfl)⟩
  case stop =>
    rintro D c pre W _ _ h _
    exact h.elim
set_option maxHeartbeats 1000000 in
theorem collectI_in (F : Fence) (n : Nat) (h2 : F.fn 161) (h3 : F.fn 196) (h5 : F.fn 162) (hro : F.round = none) (hn : 4 ≤ n) (Bs n₀ : Nat) (sv : Value) (xs : List Int) (hbytes : xs.length * 8 ≤ 140737488351232) (w : World) (hBs : Bs < w.heap.size) (hn₀ : n₀ ≤ w.heap.size) (hc0 : w.cell? ⟨Bs, 0, none⟩ = some sv) (hI : ElsI n₀ w sv xs) :
    CallsIn F n Tryz.prog 161 #[.func (.func 162) #[] #[.pointer (some ⟨Bs, 0, none⟩)]] w fun e W' => ∃ v, e = .returned v ∧ W'.ownsRow w.heap.size 3 1 v xs.length (xs.map (Value.int .i64)) ∧ Below w.heap.size w W' := by
  have h1 : 1 ≤ n := by omega
  refine callsIn_of_wp Tryz.func161 rfl h2 ?_ hro
  simp only [Tryz.ntmps161, List.size_toArray, List.length_cons, List.length_nil, Nat.reduceAdd, Nat.reduceSub, Array.replicate_succ, Array.replicate_zero, List.push_toArray, List.append_toArray, List.nil_append, List.cons_append]
  gi_wp2_with (gi_at_call 196; refine (appendseqI_in F (n - 1) h3 h5 hro (by omega) Bs n₀ sv xs hbytes _ hBs hn₀ hc0 hI).mono ?_; rintro e w' ⟨v, rfl, hrow, hb⟩)
  go_ret
  exact ⟨v, rfl, hrow, hb⟩
/-- What slices.Collect of slices.Values answers: a row of one's own. -/
theorem collectI (Bs n₀ : Nat) (sv : Value) (xs : List Int) (hbytes : xs.length * 8 ≤ 140737488351232) (w : World) (hBs : Bs < w.heap.size) (hn₀ : n₀ ≤ w.heap.size) (hc0 : w.cell? ⟨Bs, 0, none⟩ = some sv) (hI : ElsI n₀ w sv xs) :
    Calls Tryz.prog 161 #[.func (.func 162) #[] #[.pointer (some ⟨Bs, 0, none⟩)]] w fun e W' => ∃ v, e = .returned v ∧ W'.ownsRow w.heap.size 3 1 v xs.length (xs.map (Value.int .i64)) ∧ Below w.heap.size w W' :=
  callsIn_wide.1 (collectI_in Fence.wide 4 trivial trivial trivial rfl (Nat.le_refl _) Bs n₀ sv xs hbytes w hBs hn₀ hc0 hI)
end Go.Proofs.YtmajlldfiiokoaaGreatDoor

/- Circles by value; slices.Values, slices.Sorted of ints; who stays. -/
namespace Go.Proofs.YtmajlldfiiokoaaGreatDoor
open Go.ChangeShapes Go.WideShapes Go.ChangeAt Go.RowKit Go.Deep
set_option linter.unusedVariables false

/-- A circle by value. -/
structure CAt (w : World) (R : Rg) (C : List Int) (g c d n : Nat) (b : Option Addr) : Prop where
  cir : Cir R C
  inv : Inv R
  mem : InIn w (some ⟨g, 0, none⟩) n C
  c1 : n ≤ c
  c2 : c ≤ 9223372036854775807
  ids : IdIn w b n (C.map R.idOf)
  n4 : 4 ≤ n
  n32 : n ≤ 32
theorem CAt.below {w w' : World} {R : Rg} {C : List Int} {g c d n : Nat} {b : Option Addr} (h : CAt w R C g c d n b) (hb : Below w.heap.size w w') : CAt w' R C g c d n b :=
  ⟨h.cir, h.inv, h.mem.below (Nat.le_refl _) hb, h.c1, h.c2, h.ids.below (Nat.le_refl _) hb, h.n4, h.n32⟩
theorem CAt.len {w : World} {R : Rg} {C : List Int} {g c d n : Nat} {b : Option Addr} (h : CAt w R C g c d n b) : C.length = n := h.mem.1
theorem CAt.rng {w : World} {R : Rg} {C : List Int} {g c d n : Nat} {b : Option Addr} (h : CAt w R C g c d n b) : ∀ x ∈ C, 0 ≤ x ∧ x < 32 := fun x hx => h.inv.rng x ((h.cir.mem x).1 hx)
theorem of_c (r gp gk : Nat) (R : Rg) (w : World) (h : RingAt w r gp gk R) (hi : Inv R) :
    Calls Tryz.prog 18 #[.pointer (some ⟨r, 0, none⟩)] w fun e w' => ∃ C g b c d n, e = .returned (.agg #[.slice (some ⟨g, 0, none⟩) n c, .slice b n d]) ∧ CAt w' R C g c d n b ∧ n = R.live.length ∧ Below w.heap.size w w' := by
  refine (of_r r gp gk R w h hi).mono ?_
  rintro e w' ⟨C, g, b, c, d, rfl, hC, hm, hc1, hc2, hp, _, hb⟩
  exact ⟨C, g, b, c, d, _, rfl, ⟨hC, hi, hm, hc1, hc2, hp, live_four hi, liveTo_len R 32⟩, rfl, hb⟩
/-- Where the owner of a group's key stands. -/
theorem CAt.own {w : World} {R : Rg} {C : List Int} {g c d n : Nat} {b : Option Addr} (h : CAt w R C g c d n b) (s : ByteArray) : ∃ k : Nat, ownerN (C.map R.idOf) (gkeyT s) = (k : Int) ∧ k < n := by
  obtain ⟨k, h1, h2⟩ := owner_rng (C.map R.idOf) (gkeyT s) (by have := h.len; have := h.n4; simp; omega)
  rw [List.length_map, h.len] at h2
  exact ⟨k, h1, h2⟩
theorem keepers_c {w : World} {R : Rg} {C : List Int} {g c d n k : Nat} {b : Option Addr} (h : CAt w R C g c d n b) (s : ByteArray) (hk : ownerN (C.map R.idOf) (gkeyT s) = (k : Int)) (hkn : k < n) (hs : s.size ≤ 200) :
    Calls Tryz.prog 29 #[.agg #[.slice (some ⟨g, 0, none⟩) n c, .slice b n d], .string s] w fun e w' => (∃ a c3, e = .returned (.slice a 3 c3) ∧ InIn w' a 3 (keepL C k)) ∧ Below w.heap.size w w' :=
  keepers_r h.inv h.cir g c d n k b s w h.mem h.c1 h.c2 h.ids h.n4 h.n32 hk hkn hs
theorem own_shapeR {w : World} {B n : Nat} {v : Value} {xs : List Value} (h : w.ownsRow B 3 1 v n xs) : ∃ a c, v = .slice a n c ∧ (a = none → n = 0) := by
  rcases h.2 with ⟨hv, h0⟩ | ⟨g, cap, cur, hv, _⟩
  · exact ⟨none, 0, by rw [hv, h0], fun _ => h0⟩
  · exact ⟨_, _, hv, fun e => by cases e⟩
theorem least_natR {p : Nat → Prop} : ∀ (k : Nat), p k → ∃ j, p j ∧ ∀ i, i < j → ¬ p i := by
  intro k
  induction k using Nat.strongRecOn with
  | _ k ih =>
    intro hk
    by_cases h : ∃ i, i < k ∧ p i
    · obtain ⟨i, h1, h2⟩ := h
      exact ih i h1 h2
    · exact ⟨k, hk, fun i hi hp => h ⟨i, hi, hp⟩⟩
theorem values_i (a : Option Addr) (n c : Nat) (w : World) :
    Calls Tryz.prog 120 #[.slice a n c] w fun e w' => e = .returned (.func (.func 162) #[] #[.pointer (some ⟨w.heap.size, 0, none⟩)]) ∧ w' = w.alloc (.cells #[.slice a n c] 24) := by
  go_enter Tryz.func120, Tryz.ntmps120
  go_wp2
  go_ret
  exact ⟨rfl, rfl⟩
theorem els_of {w : World} {a : Option Addr} {n c : Nat} {l : List Int} (h : InIn w a n l) (h0 : True := trivial) : ElsI w.heap.size w (.slice a n c) l := by
  have hl : l.length = n := h.1
  rcases Nat.eq_zero_or_pos n with e | hn
  · subst e
    exact .inl ⟨a, c, rfl, List.eq_nil_of_length_eq_zero hl⟩
  · obtain ⟨b, o, ha, hlt, _, _⟩ := h.one (v := Value.int .i64) (fun _ => rfl) (i := 0) hn
    subst ha
    refine .inr ⟨b, o, c, by rw [hl], hlt, fun j hj => ?_⟩
    obtain ⟨mb, mo, hmb, _, _, hc⟩ := h.one (v := Value.int .i64) (fun _ => rfl) (i := j) (by omega)
    simp at hmb
    obtain ⟨rfl, rfl⟩ := hmb
    rw [hc, List.getD_eq_getElem?_getD]
set_option maxHeartbeats 1000000 in
/-- slices.Sorted of slices.Values of ints. -/
theorem sorted_i (Bs n : Nat) (sv : Value) (xs : List Int) (w : World) (hn : xs.length = n) (hBs : Bs < w.heap.size) (hc0 : w.cell? ⟨Bs, 0, none⟩ = some sv) (hI : ElsI w.heap.size w sv xs) (hl : xs.length ≤ 1000) (hr : ∀ x ∈ xs, i64 x) :
    Calls Tryz.prog 119 #[.func (.func 162) #[] #[.pointer (some ⟨Bs, 0, none⟩)]] w fun e w' => (∃ a c T, e = .returned (.slice a n c) ∧ InIn w' a n T ∧ T.Perm xs ∧ T.Pairwise (· ≤ ·)) ∧ Below w.heap.size w w' := by
  have HC : Hid _ := collectI Bs w.heap.size sv xs (by omega) w hBs (Nat.le_refl _) hc0 hI
  have HR : Hid (∀ x ∈ xs, i64 x) := hr
  clear hBs hc0 hI hr
  go_enter Tryz.func119, Tryz.ntmps119
  go_wp2_with fail
  refine Calls.mono HC.out ?_
  clear HC
  rintro e w1 ⟨v, rfl, hrow, b1⟩
  rw [hn] at hrow hl
  obtain ⟨a, c, rfl, _⟩ := own_shapeR hrow
  clear hn
  have HS : Hid _ := sort_own w.heap.size w1 a n c xs hrow (by omega)
  have HB : Hid (Below w.heap.size w w1 ∧ w1.ownsRow w.heap.size 3 1 (.slice a n c) n (xs.map (Value.int .i64))) := ⟨b1, hrow⟩
  clear hrow b1
  go_wp2_with fail
  refine Calls.mono HS.out ?_
  clear HS
  rintro e w2 ⟨rfl, T, hp, hs, hrow2, hg⟩
  have H2 : Hid (InIn w2 a n T ∧ T.Perm xs ∧ T.Pairwise (· ≤ ·) ∧ Below w.heap.size w w2) :=
    ⟨in_of_own hrow2 (fun x hx => HR.out x (hp.mem_iff.1 hx)) (by omega), hp, hs, HB.out.1.grown hg HB.out.1.size (fun k hk => (World.ownsRow.lt HB.out.2 k hk).1)⟩
  clear hrow2 hg hp hs
  go_wp2
  go_ret
  exact ⟨⟨_, _, T, rfl, H2.out.1, H2.out.2.1, H2.out.2.2.1⟩, H2.out.2.2.2⟩
/-- slices.Contains of ints. -/
theorem contains_i (a : Option Addr) (n c : Nat) (l : List Int) (x : Int) (w : World) (h : InIn w a n l) :
    Calls Tryz.prog 85 #[.slice a n c, .int .i64 x] w fun e w' => e = .returned (.bool (decide (x ∈ l))) ∧ w' = w := by
  by_cases hx : x ∈ l
  · obtain ⟨k0, hk0, hk1⟩ := List.mem_iff_getElem.1 hx
    obtain ⟨k, hk, hmin⟩ := least_natR (p := fun k => k < n ∧ l.getD k 0 = x) k0 ⟨by rw [← h.1]; exact hk0, by rw [List.getD_eq_getElem?_getD, List.getElem?_eq_getElem hk0]; exact hk1⟩
    have HI : Hid _ := index_i a n c l x k w h hk.1 hk.2 (fun j hj e => hmin j hj ⟨by omega, e⟩)
    have hd : decide (x ∈ l) = true := by simpa using hx
    rw [hd]
    have hk9 : (0 : Int) ≤ (k : Int) := by omega
    clear hx hmin hk hk1 h hd
    go_enter Tryz.func85, Tryz.ntmps85
    go_wp2_with fail
    refine Calls.mono HI.out ?_
    rintro e w1 ⟨rfl, hw⟩
    subst w1
    go_wp2
    go_ret
    exact ⟨ret_b (by simp), rfl⟩
  · have HI : Hid _ := index_none a n c l x w h (fun j hj e => hx (by
      rw [← e, List.getD_eq_getElem?_getD, List.getElem?_eq_getElem (by rw [h.1]; exact hj)]; simp))
    have hd : decide (x ∈ l) = false := by simpa using hx
    rw [hd]
    clear hx h hd
    go_enter Tryz.func85, Tryz.ntmps85
    go_wp2_with fail
    refine Calls.mono HI.out ?_
    rintro e w1 ⟨rfl, hw⟩
    subst w1
    go_wp2
    go_ret
    exact ⟨ret_b (by simp), rfl⟩
set_option maxHeartbeats 1000000 in
/-- Is a member of the circle there? One of it is. -/
theorem stays_c (q : Nat) (R : Rg) (C : List Int) (g c d n i : Nat) (b : Option Addr) (w : World) (h : CAt w R C g c d n b) (h0 : w.cell? ⟨q, 0, none⟩ = some (.slice (some ⟨g, 0, none⟩) n c)) (h1 : w.cell? ⟨q, 1, none⟩ = some (.slice b n d)) (hi : i < n) :
    Calls Tryz.prog 118 #[.int .i64 (C.getD i 0), .pointer (some ⟨q, 0, none⟩)] w fun e w' => e = .returned (.bool true) ∧ Below w.heap.size w w' := by
  have hmin : ∀ j, j < i → C.getD j 0 ≠ C.getD i 0 := fun j hj e => by
    have hjn : j < C.length := by rw [h.len]; omega
    have hin : i < C.length := by rw [h.len]; exact hi
    have := (List.pairwise_iff_getElem.1 h.cir.rise) j i hjn hin hj
    rw [List.getD_eq_getElem?_getD, List.getD_eq_getElem?_getD, List.getElem?_eq_getElem hjn, List.getElem?_eq_getElem hin] at e
    have e : C[j] = C[i] := e
    rw [e] at this
    omega
  have HP : Hid _ := cpeer_r R C g c d n i b w h.mem h.c1 h.c2 h.ids h.n4 h.n32 hi hmin
  have hl := cell_block h0
  clear h hmin
  generalize C.getD i 0 = x at HP
  go_enter Tryz.func118, Tryz.ntmps118
  go_wp2_with fail
  refine Calls.mono HP.out ?_
  clear HP
  rintro e w1 ⟨a2, c2, rfl, _, _, b1⟩
  have HB : Hid (Below w.heap.size w w1) := b1
  clear b1 h0 h1 hl
  go_wp2
  go_ret
  exact ⟨rfl, HB.out.trans ((below_one _ _).mono HB.out.size)⟩
set_option maxHeartbeats 1000000 in
/-- slices.IndexFunc where the first one is it. -/
theorem indexfunc_0 (a : Option Addr) (n c : Nat) (l : List Int) (w : World) (fn q : Nat) (h : InIn w a n l) (hn : 0 < n) (hf : Calls Tryz.prog fn #[.int .i64 (l.getD 0 0), .pointer (some ⟨q, 0, none⟩)] w fun e w' => e = .returned (.bool true) ∧ Below w.heap.size w w') (hfn : fn = 118) :
    Calls Tryz.prog 117 #[.slice a n c, .func (.func fn) #[] #[.pointer (some ⟨q, 0, none⟩)]] w fun e w' => e = .returned (.int .i64 0) ∧ Below w.heap.size w w' := by
  subst hfn
  obtain ⟨mb, mo, hmb, hml, _, hmc⟩ := h.one (v := Value.int .i64) (fun _ => rfl) (i := 0) hn
  subst hmb
  have HF : Hid _ := hf
  have hnI : (0 : Int) < (n : Int) := by omega
  clear hf h
  generalize l.getD 0 0 = x at HF hmc
  simp only [Nat.add_zero] at hmc
  go_enter Tryz.func117, Tryz.ntmps117
  go_wp2
  go_loopg [8] 1 (fun kx s wr => s = .int .i64 0 ∧ wr = w ∧ kx = 1)
  case atStart => exact ⟨rfl, rfl, rfl⟩
  case round =>
    obtain ⟨rfl, hwr, rfl⟩ := hrel
    subst wr
    go_wp2_with fail
    refine Calls.mono HF.out ?_
    rintro e w1 ⟨rfl, b1⟩
    have HB : Hid (Below w.heap.size w w1) := b1
    clear b1 hmc hml
    go_wp2
    go_ret
    exact ⟨rfl, HB.out⟩
end Go.Proofs.YtmajlldfiiokoaaGreatDoor

/- rdv.moves. -/
namespace Go.Proofs.YtmajlldfiiokoaaGreatDoor
open Go.ChangeShapes Go.WideShapes Go.ChangeAt Go.RowKit Go.Deep
set_option linter.unusedVariables false

def encM (m : ByteArray × Int × Int) : List Value := [.string m.1, .int .i64 m.2.1, .int .i64 m.2.2]
/-- Who gets a group's wishes, and from whom. -/
def movesL (s : ByteArray) (o : Int) (K T : List Int) : List (ByteArray × Int × Int) := (T.filter (fun x => !decide (x ∈ K))).map fun x => (s, o, x)
theorem movesL_len (s : ByteArray) (o : Int) (K T : List Int) : (movesL s o K T).length ≤ T.length := by
  unfold movesL; rw [List.length_map]; exact List.length_filter_le _ _
theorem movesL_snoc (s : ByteArray) (o : Int) (K T : List Int) (x : Int) : movesL s o K (T ++ [x]) = if x ∈ K then movesL s o K T else movesL s o K T ++ [(s, o, x)] := by
  unfold movesL
  rw [List.filter_append, List.map_append]
  by_cases h : x ∈ K <;> simp [h]
theorem Tryz.infoMv : (Tryz.prog.info? 69).map (fun i => (i.zero, i.size, i.bytes)) = some (some (.agg #[.string ⟨#[]⟩, .int .i64 0, .int .i64 0]), 3, 32) := by kernel_rfl
theorem src_mv (w : World) (k : ByteArray × Int × Int) : Src Tryz.prog 3 63 (.slice (some ⟨w.heap.size, 0, none⟩) 1 1) 1 (encM k) (w.alloc (.cells #[.string k.1, .int .i64 k.2.1, .int .i64 k.2.2] 69)) :=
  Src.ofSlice _ Tryz.underlying63 _ 1 1 _ rfl (fun j u hu => by
    exact World.news_of_block (cs := #[.string k.1, .int .i64 k.2.1, .int .i64 k.2.2]) (t := 69) (fr := (0, 0)) (heap_alloc_new w _) j u (by simpa [encM] using hu)) (by simp [encM, Value.oneCell'])
theorem flat_snocM (L : List (ByteArray × Int × Int)) (k : ByteArray × Int × Int) : (L ++ [k]).flatMap encM = L.flatMap encM ++ encM k := by simp
theorem own_lower {w : World} {B B' n k : Nat} {e : TypeId} {v : Value} {xs : List Value} (h : w.ownsRow B e k v n xs) (hb : B' ≤ B) : w.ownsRow B' e k v n xs := by
  refine ⟨h.1, ?_⟩
  rcases h.2 with hn | ⟨g, cap, cur, hv, hbg, rest⟩
  · exact .inl hn
  · exact .inr ⟨g, cap, cur, hv, Nat.le_trans hb hbg, rest⟩

set_option maxRecDepth 100000 in
set_option maxHeartbeats 4000000 in
theorem moves_c (R1 R2 : Rg) (C1 C2 : List Int) (g1 c1 d1 n1 k1 g2 c2 d2 n2 k2 : Nat) (b1 b2 : Option Addr) (s : ByteArray) (w : World) (h1 : CAt w R1 C1 g1 c1 d1 n1 b1) (h2 : CAt w R2 C2 g2 c2 d2 n2 b2)
    (ho1 : ownerN (C1.map R1.idOf) (gkeyT s) = (k1 : Int)) (hk1 : k1 < n1) (ho2 : ownerN (C2.map R2.idOf) (gkeyT s) = (k2 : Int)) (hk2 : k2 < n2) (hs : s.size ≤ 200) (hst : C1.getD k1 0 ∈ C2) :
    Calls Tryz.prog 66 #[.agg #[.slice (some ⟨g1, 0, none⟩) n1 c1, .slice b1 n1 d1], .agg #[.slice (some ⟨g2, 0, none⟩) n2 c2, .slice b2 n2 d2], .string s] w fun e w' =>
      (∃ v T, e = .returned v ∧ T.Perm (keepL C2 k2) ∧ T.Pairwise (· ≤ ·) ∧ w'.ownsRow w.heap.size 69 3 v (movesL s (C1.getD k1 0) (keepL C1 k1) T).length ((movesL s (C1.getD k1 0) (keepL C1 k1) T).flatMap encM)) ∧ Below w.heap.size w w' := by
  obtain ⟨i0, hif, hz0, hz1, hz2⟩ := info_parts Tryz.infoMv
  obtain ⟨q, hq⟩ : ∃ q, q = w.heap.size := ⟨_, rfl⟩
  obtain ⟨W, hW⟩ : ∃ W, W = (w.alloc (.cells #[.slice (some ⟨g1, 0, none⟩) n1 c1, .slice b1 n1 d1] 50)).alloc (.cells #[.slice (some ⟨g2, 0, none⟩) n2 c2, .slice b2 n2 d2] 50) := ⟨_, rfl⟩
  have e1 : Below w.heap.size w (w.alloc (.cells #[.slice (some ⟨g1, 0, none⟩) n1 c1, .slice b1 n1 d1] 50)) := below_one _ _
  have e2 : Below (w.alloc (.cells #[.slice (some ⟨g1, 0, none⟩) n1 c1, .slice b1 n1 d1] 50)).heap.size (w.alloc (.cells #[.slice (some ⟨g1, 0, none⟩) n1 c1, .slice b1 n1 d1] 50)) W := by rw [hW]; exact below_one _ _
  have bW : Below w.heap.size w W := e1.trans (e2.mono e1.size)
  have x0 : W.cell? ⟨q, 0, none⟩ = some (.slice (some ⟨g1, 0, none⟩) n1 c1) := cell_grown (by rw [hq]; exact World.cell?_alloc_new ..) e2
  have x1 : W.cell? ⟨q, 1, none⟩ = some (.slice b1 n1 d1) := cell_grown (by rw [hq]; simp) e2
  have y0 : W.cell? ⟨q + 1, 0, none⟩ = some (.slice (some ⟨g2, 0, none⟩) n2 c2) := by rw [hW, show q + 1 = (w.alloc (.cells #[.slice (some ⟨g1, 0, none⟩) n1 c1, .slice b1 n1 d1] 50)).heap.size by rw [hq]; simp]; exact World.cell?_alloc_new ..
  have y1 : W.cell? ⟨q + 1, 1, none⟩ = some (.slice b2 n2 d2) := by rw [hW, hq]; simp
  have xl := cell_block x0
  have yl := cell_block y0
  have H1 : Hid (CAt W R1 C1 g1 c1 d1 n1 b1 ∧ CAt W R2 C2 g2 c2 d2 n2 b2 ∧ Below w.heap.size w W) := ⟨h1.below bW, h2.below bW, bW⟩
  obtain ⟨i2, hi2, hi3⟩ := List.mem_iff_getElem.1 hst
  have hi2n : i2 < n2 := by rw [← h2.len]; exact hi2
  have hi4 : C2.getD i2 0 = C1.getD k1 0 := by rw [List.getD_eq_getElem?_getD, List.getElem?_eq_getElem hi2]; exact hi3
  have hKr : ∀ x ∈ keepL C2 k2, i64 x := fun x hx => by
    have := h2.rng x (keepL_sub (by rw [h2.len]; exact hk2) hx); unfold i64; omega
  have hKl : (keepL C2 k2).length = 3 := keepL_len (by rw [h2.len]; exact h2.n4) (by rw [h2.len]; exact hk2)
  obtain ⟨o, hoe⟩ : ∃ o, o = C1.getD k1 0 := ⟨_, rfl⟩
  have HK : Hid (ownerN (C1.map R1.idOf) (gkeyT s) = (k1 : Int) ∧ k1 < n1 ∧ ownerN (C2.map R2.idOf) (gkeyT s) = (k2 : Int) ∧ k2 < n2 ∧ s.size ≤ 200 ∧ i2 < n2 ∧ C2.getD i2 0 = o ∧ o = C1.getD k1 0 ∧ (∀ x ∈ keepL C2 k2, i64 x) ∧ (keepL C2 k2).length = 3) := ⟨ho1, hk1, ho2, hk2, hs, hi2n, hi4.trans hoe.symm, hoe, hKr, hKl⟩
  rw [← hoe]
  clear h1 h2 ho1 hk1 ho2 hk2 hs hst hi2 hi3 hi2n hi4 hKr hKl e1 e2 bW hoe
  go_enter Tryz.func66, Tryz.ntmps66
  go_upto_region 1 with fail
  rw [← hW]
  try rw [← hq]
  clear hW hq
  go_wp2_with fail
  refine (keepers_c H1.out.1 s HK.out.1 HK.out.2.1 HK.out.2.2.2.2.1).mono ?_
  rintro e w1 ⟨⟨ka, kc, rfl, hin1⟩, bb1⟩
  replace x0 := cell_grown x0 bb1
  replace x1 := cell_grown x1 bb1
  replace xl := cell_block x0
  replace y0 := cell_grown y0 bb1
  replace y1 := cell_grown y1 bb1
  replace yl := cell_block y0
  have H2 : Hid (CAt w1 R2 C2 g2 c2 d2 n2 b2 ∧ Below w.heap.size w w1 ∧ InIn w1 ka 3 (keepL C1 k1)) := ⟨H1.out.2.1.below bb1, H1.out.2.2.trans (bb1.mono H1.out.2.2.size), hin1⟩
  clear bb1 hin1 H1
  have HF : Hid _ := indexfunc_0 ka 3 kc (keepL C1 k1) w1 _ (q + 1) H2.out.2.2 (by omega) (by
    have h := stays_c (q + 1) R2 C2 g2 c2 d2 n2 i2 b2 w1 H2.out.1 y0 y1 HK.out.2.2.2.2.2.1
    rw [HK.out.2.2.2.2.2.2.1] at h
    rw [show (keepL C1 k1).getD 0 0 = o from HK.out.2.2.2.2.2.2.2.1.symm]
    exact h) rfl
  go_wp2_with fail
  refine Calls.mono HF.out ?_
  clear HF
  rintro e w2 ⟨rfl, bb2⟩
  replace x0 := cell_grown x0 bb2
  replace x1 := cell_grown x1 bb2
  replace xl := cell_block x0
  replace y0 := cell_grown y0 bb2
  replace y1 := cell_grown y1 bb2
  replace yl := cell_block y0
  have H3 : Hid (CAt w2 R2 C2 g2 c2 d2 n2 b2 ∧ Below w.heap.size w w2 ∧ InIn w2 ka 3 (keepL C1 k1)) := ⟨H2.out.1.below bb2, H2.out.2.1.trans (bb2.mono H2.out.2.1.size), H2.out.2.2.below (Nat.le_refl _) bb2⟩
  clear bb2 H2
  go_wp2_with fail
  refine (keepers_c H3.out.1 s HK.out.2.2.1 HK.out.2.2.2.1 HK.out.2.2.2.2.1).mono ?_
  rintro e w3 ⟨⟨la, lc, rfl, hin3⟩, bb3⟩
  have H4 : Hid (Below w.heap.size w w3 ∧ InIn w3 ka 3 (keepL C1 k1) ∧ InIn w3 la 3 (keepL C2 k2)) := ⟨H3.out.2.1.trans (bb3.mono H3.out.2.1.size), H3.out.2.2.below (Nat.le_refl _) bb3, hin3⟩
  clear bb3 hin3 H3 x0 x1 xl y0 y1 yl
  go_wp2_with fail
  refine (values_i la 3 lc w3).mono ?_
  rintro e w4 ⟨rfl, hw4⟩
  have b4 : Below w3.heap.size w3 w4 := by rw [hw4]; exact below_one _ _
  have z0 : w4.cell? ⟨w3.heap.size, 0, none⟩ = some (.slice la 3 lc) := by rw [hw4]; exact World.cell?_alloc_new ..
  have H5 : Hid (Below w.heap.size w w4 ∧ InIn w4 ka 3 (keepL C1 k1) ∧ InIn w4 la 3 (keepL C2 k2)) := ⟨H4.out.1.trans (b4.mono H4.out.1.size), H4.out.2.1.below (Nat.le_refl _) b4, H4.out.2.2.below (Nat.le_refl _) b4⟩
  have HS : Hid _ := sorted_i w3.heap.size 3 (.slice la 3 lc) (keepL C2 k2) w4 HK.out.2.2.2.2.2.2.2.2.2 (cell_block z0) z0 (els_of H5.out.2.2) (by rw [HK.out.2.2.2.2.2.2.2.2.2]; omega) HK.out.2.2.2.2.2.2.2.2.1
  clear hw4 b4 z0 H4
  go_wp2_with fail
  refine Calls.mono HS.out ?_
  clear HS
  rintro e w5 ⟨⟨ta, tc, T, rfl, hin5, hperm, hsrt⟩, b5⟩
  have H6 : Hid (Below w.heap.size w w5 ∧ InIn w5 ka 3 (keepL C1 k1) ∧ InIn w5 ta 3 T ∧ T.Perm (keepL C2 k2) ∧ T.Pairwise (· ≤ ·)) := ⟨H5.out.1.trans (b5.mono H5.out.1.size), H5.out.2.1.below (Nat.le_refl _) b5, hin5, hperm, hsrt⟩
  clear hin5 hperm hsrt b5 H5
  go_wp2
  go_loopg [9, 26] 3 (fun kx v st wr => ∃ (j : Nat) (a : Option Addr) (m c : Nat), st = .int .i64 j ∧ v = .slice a m c ∧ j ≤ 3 ∧ m ≤ j ∧ kx = 3 - j ∧ Hid (∃ L, L.length = m ∧ wr.ownsRow w5.heap.size 69 3 (.slice a m c) m (L.flatMap encM) ∧ Below w5.heap.size w5 wr ∧ L = movesL s o (keepL C1 k1) (T.take j)))
  case atStart => exact ⟨0, none, 0, 0, rfl, rfl, by omega, by omega, rfl, ⟨[], rfl, World.ownsRow_nil _ _ _ _, Below.refl _ _, by simp [movesL]⟩⟩
  case round =>
    obtain ⟨j, a, m, c, rfl, rfl, hj, hm, rfl, HB⟩ := hrel
    obtain ⟨L, hL1, hL2, hL3, hL4⟩ := HB.out
    have HL : Hid (L.length = m ∧ wr.ownsRow w5.heap.size 69 3 (.slice a m c) m (L.flatMap encM) ∧ Below w5.heap.size w5 wr ∧ L = movesL s o (keepL C1 k1) (T.take j)) := ⟨hL1, hL2, hL3, hL4⟩
    clear HB hL1 hL2 hL3 hL4
    by_cases hlt : j < 3
    · have hltI : (j : Int) < 3 := by omega
      obtain ⟨mb, mo, hmb, hml, _, hmc⟩ := (H6.out.2.2.1.below (Nat.le_refl _) HL.out.2.2.1).one (v := Value.int .i64) (fun _ => rfl) (i := j) hlt
      subst hmb
      obtain ⟨kb, ko, hkb, hkl, _, hkc⟩ := (H6.out.2.1.below (Nat.le_refl _) HL.out.2.2.1).one (v := Value.int .i64) (fun _ => rfl) (i := 0) (by omega)
      have HKI : Hid (InIn wr ka 3 (keepL C1 k1)) := H6.out.2.1.below (Nat.le_refl _) HL.out.2.2.1
      subst hkb
      rw [show (keepL C1 k1).getD 0 0 = o from HK.out.2.2.2.2.2.2.2.1.symm] at hkc
      simp only [Nat.add_zero] at hkc
      have hsn := take_snocI T (j := j) (by rw [H6.out.2.2.1.1]; exact hlt)
      obtain ⟨x, hx⟩ : ∃ x, x = T.getD j 0 := ⟨_, rfl⟩
      rw [← hx] at hmc hsn
      have HSN : Hid (T.take (j + 1) = T.take j ++ [x]) := hsn
      clear hx hsn
      by_cases hin : x ∈ keepL C1 k1
      · have HI : Hid (decide (x ∈ keepL C1 k1) = true ∧ L = movesL s o (keepL C1 k1) (T.take (j + 1))) := ⟨by simpa using hin, by rw [HSN.out, movesL_snoc, if_pos hin]; exact HL.out.2.2.2⟩
        clear hin
        go_wp2_with fail
        refine (contains_i _ 3 kc (keepL C1 k1) x wr HKI.out).mono ?_
        rintro e w' ⟨rfl, hw'⟩
        subst w'
        rw [HI.out.1]
        clear hmc hkc hml hkl
        go_wp2
        go_roundg (3 - (j + 1))
        case measure => omega
        case rel => exact ⟨j + 1, a, m, c, by go_num, rfl, by omega, by omega, rfl, ⟨L, HL.out.1, HL.out.2.1, HL.out.2.2.1, HI.out.2⟩⟩
      · have HI : Hid (decide (x ∈ keepL C1 k1) = false ∧ L ++ [(s, o, x)] = movesL s o (keepL C1 k1) (T.take (j + 1))) := ⟨by simpa using hin, by rw [HSN.out, movesL_snoc, if_neg hin, ← HL.out.2.2.2]⟩
        clear hin
        go_wp2_with fail
        refine (contains_i _ 3 kc (keepL C1 k1) x wr HKI.out).mono ?_
        rintro e w' ⟨rfl, hw'⟩
        subst w'
        rw [HI.out.1]
        have HA : Hid ((wr.alloc (.cells #[.string s, .int .i64 o, .int .i64 x] 69)).ownsRow w5.heap.size 69 3 (.slice a m c) m (L.flatMap encM)) := row_at HL.out.2.1 (fun z hz => Below.heap_alloc _ _ _ (World.ownsRow.lt HL.out.2.1 z hz).2)
        have HSz : Hid (w5.heap.size ≤ wr.heap.size) := HL.out.2.2.1.size
        go_wp2_with (at_builtin; go_loud (refine wpList_own_append3 _ rfl _ _ 63 63 rfl w5.heap.size 69 i0 _ 32 Tryz.underlying63 hif hz0 hz1 hz2 rfl _ _ _ rfl HA.out _ 1 (encM (s, o, x)) rfl (src_mv wr (s, o, x)) (by unfold maxLen; omega) (by omega) (by have := HSz.out; simp; omega) ?_))
        intro v' w8 ha
        obtain ⟨x8, k8, rfl⟩ := ha.shape
        have H8 : Hid (w8.ownsRow w5.heap.size 69 3 (.slice x8 (m + 1) k8) (m + 1) ((L ++ [(s, o, x)]).flatMap encM) ∧ Below w5.heap.size w5 w8) := by
          refine ⟨by rw [flat_snocM]; exact ha.row, ?_⟩
          have b := HL.out.2.2.1.alloc HL.out.2.2.1.size (.cells #[.string s, .int .i64 o, .int .i64 x] 69)
          exact b.grown ha.grown b.size (fun k hk => (World.ownsRow.lt HA.out k hk).1)
        clear ha HA HSz hmc hkc hml hkl
        go_wp2
        go_roundg (3 - (j + 1))
        case measure => omega
        case rel => exact ⟨j + 1, x8, m + 1, k8, by go_num, rfl, by omega, by omega, rfl, ⟨L ++ [(s, o, x)], by simp [HL.out.1], H8.out.1, H8.out.2, HI.out.2⟩⟩
    · obtain rfl : j = 3 := by omega
      have HLT : Hid (L = movesL s o (keepL C1 k1) T) := by
        have := HL.out.2.2.2
        rw [List.take_of_length_le (by rw [H6.out.2.2.1.1]; omega)] at this
        exact this
      go_wp2
      go_ret
      refine ⟨⟨_, T, rfl, H6.out.2.2.2.1, H6.out.2.2.2.2, ?_⟩, H6.out.1.trans (HL.out.2.2.1.mono H6.out.1.size)⟩
      rw [← HLT.out, HL.out.1]
      exact own_lower HL.out.2.1 H6.out.1.size
end Go.Proofs.YtmajlldfiiokoaaGreatDoor

/- slices.Values, slices.Collect, slices.AppendSeq of texts. -/
namespace Go.Proofs.YtmajlldfiiokoaaGreatDoor
open Go.RowKit Go.Shelf
attribute [local go_sem] Oper.semAt_some
set_option linter.unusedVariables false


theorem uptoS_all (zs : List ByteArray) : upto (fun j => zs[j]?.getD ByteArray.empty) zs.length = zs := by
  apply List.ext_getElem
  · simp [upto]
  · intro i h1 h2
    simp [upto, h2]
theorem uptoS_take (zs : List ByteArray) {k : Nat} (hk : k ≤ zs.length) : upto (fun j => zs[j]?.getD ByteArray.empty) k = zs.take k := by
  apply List.ext_getElem
  · simp [upto, hk]
  · intro i h1 h2
    have : i < zs.length := by simp [upto] at h1; omega
    simp [upto, this]
set_option maxRecDepth 100000 in
set_option maxHeartbeats 2000000 in
theorem values1S_in (F : Fence) (n : Nat) (h7 : F.fn 116) (hro : F.round = none) (hn : 1 ≤ n) (l Bs n₀ b off len cap : Nat) (zs : List ByteArray) (hreach : len * 16 ≤ 140737488351232) (hb : b < n₀) (J Jx : List ByteArray → World → Prop)
    (hY : ∀ pre x W, J pre W → pre.length < len → YieldAt F (n - 1) Tryz.prog l #[Value.string x] W fun e W' =>
      (e = .returned (.bool true) ∧ J (pre ++ [x]) W' ∧ Below n₀ W W') ∨ (e = .returned (.bool false) ∧ Jx (pre ++ [x]) W'))
    (W : World) (hBs : W.cell? ⟨Bs, 0, none⟩ = some (.slice (some ⟨b, off, none⟩) len cap)) (hc : ∀ j, j < len → W.cell? ⟨b, off + j, none⟩ = some (Value.string (zs[j]?.getD ByteArray.empty))) (h0 : J [] W) :
    CallsIn F n Tryz.prog 116 #[.func (.yield l) #[] #[], .pointer (some ⟨Bs, 0, none⟩)] W fun e W' => (∃ v, e = .returned v) ∧
      ((∃ ys, ys = upto (fun j => zs[j]?.getD ByteArray.empty) len ∧ J ys W') ∨ (∃ pre, (∃ k, k ≤ len ∧ pre = upto (fun j => zs[j]?.getD ByteArray.empty) k) ∧ Jx pre W')) := by
  refine callsIn_of_wp Tryz.func116 rfl h7 ?_ hro
  simp only [Tryz.ntmps116, List.size_toArray, List.length_cons, List.length_nil, Nat.reduceAdd, Nat.reduceSub, Array.replicate_succ, Array.replicate_zero, List.push_toArray, List.append_toArray, List.nil_append, List.cons_append]
  gi_wp2
  gi_loopw [7] (fun i wr => ∃ k : Nat, k ≤ len ∧ i = .int .i64 k ∧ J (upto (fun j => zs[j]?.getD ByteArray.empty) k) wr ∧ Below n₀ W wr)
    (fun i _ => len - (intOf i).toNat)
  case atStart => exact ⟨0, Nat.zero_le _, rfl, h0, Below.refl _ _⟩
  case round =>
    obtain ⟨k, hk, rfl, hJs, hnx⟩ := hrel
    have hcx : k < len → wr.cell? ⟨b, off + k, none⟩ = some (Value.string (zs[k]?.getD ByteArray.empty)) := fun h => (hnx.cell (p := ⟨b, off + k, none⟩) hb).trans (hc k h)
    by_cases hlt : k < len
    · obtain ⟨fn, tmps, assign, body, hy, hR⟩ := hY _ (zs[k]?.getD ByteArray.empty) wr hJs (by rw [upto_length]; exact hlt)
      have hcx' := hcx hlt
      gi_wp2
      refine hR.mono ?_
      rintro e W3 (⟨rfl, hJ3, hk3⟩ | ⟨rfl, hJx3⟩)
      · gi_wp2
        go_roundw
        case rel => exact ⟨k + 1, by omega, by simp, by rw [upto_succ]; exact hJ3, hnx.trans hk3⟩
        case measure => simp [intOf]; omega
      · gi_wp2
        refine bodyPost_ret (results_none rfl _ _ _) rfl ?_
        exact ⟨⟨_, rfl⟩, .inr ⟨_, ⟨k + 1, by omega, (upto_succ _ _).symm⟩, hJx3⟩⟩
    · obtain rfl : k = len := by omega
      gi_wp2
      go_end0
      exact ⟨⟨_, rfl⟩, .inl ⟨_, rfl, hJs⟩⟩
/-- A slice's elements, in a block below n₀; or none. -/
def ElsS (n₀ : Nat) (W : World) (sv : Value) (zs : List ByteArray) : Prop :=
  (∃ a c, sv = .slice a 0 c ∧ zs = []) ∨ ∃ b off cap, sv = .slice (some ⟨b, off, none⟩) zs.length cap ∧ b < n₀ ∧ ∀ j, j < zs.length → W.cell? ⟨b, off + j, none⟩ = some (Value.string (zs[j]?.getD ByteArray.empty))
theorem ElsS.below {n₀ : Nat} {A B : World} (h : Below n₀ A B) {sv : Value} {zs : List ByteArray} : ElsS n₀ A sv zs → ElsS n₀ B sv zs
  | .inl e => .inl e
  | .inr ⟨b, off, cap, e, hb, hc⟩ => .inr ⟨b, off, cap, e, hb, fun j hj => (h.cell (p := ⟨b, off + j, none⟩) hb).trans (hc j hj)⟩
set_option maxRecDepth 100000 in
set_option maxHeartbeats 1000000 in
theorem values1S_nil_in (F : Fence) (n : Nat) (h7 : F.fn 116) (hro : F.round = none) (l Bs c : Nat) (a : Option Addr) (J : List ByteArray → World → Prop) (W : World) (hBs : W.cell? ⟨Bs, 0, none⟩ = some (.slice a 0 c)) (h0 : J [] W) :
    CallsIn F n Tryz.prog 116 #[.func (.yield l) #[] #[], .pointer (some ⟨Bs, 0, none⟩)] W fun e W' => (∃ v, e = .returned v) ∧ J [] W' := by
  refine callsIn_of_wp Tryz.func116 rfl h7 ?_ hro
  simp only [Tryz.ntmps116, List.size_toArray, List.length_cons, List.length_nil, Nat.reduceAdd, Nat.reduceSub, Array.replicate_succ, Array.replicate_zero, List.push_toArray, List.append_toArray, List.nil_append, List.cons_append]
  gi_wp2
  gi_loopw [7] (fun i wr => i = .int .i64 0 ∧ J [] wr) (fun _ _ => 0)
  case atStart => exact ⟨rfl, h0⟩
  case round =>
    obtain ⟨rfl, hJs⟩ := hrel
    gi_wp2
    go_end0
    exact ⟨⟨_, rfl⟩, hJs⟩
theorem valuesS_stops (F : Fence) (n : Nat) (h7 : F.fn 116) (hro : F.round = none) (hn : 1 ≤ n) (Bs n₀ : Nat) (sv : Value) (zs : List ByteArray) (hreach : zs.length * 16 ≤ 140737488351232) (w : World) (hBs : Bs < w.heap.size) (hn₀ : n₀ ≤ w.heap.size)
    (hc : w.cell? ⟨Bs, 0, none⟩ = some sv) (hI : ElsS n₀ w sv zs) :
    SeqStopsK F n Tryz.prog 116 #[.pointer (some ⟨Bs, 0, none⟩)] (fun x : ByteArray => #[Value.string x]) (Below n₀) (fun ys => ys = zs) (fun pre => pre <+: zs) zs.length w := fun l J Jx W hW _ _ hY h0 => by
  have hc' := (hW.cell (p := ⟨Bs, 0, none⟩) hBs).trans hc
  rcases hI.below (hW.mono hn₀) with ⟨a, c, rfl, rfl⟩ | ⟨b, off, cap, rfl, hb, hcs⟩
  · exact (values1S_nil_in F n h7 hro l Bs c a J W hc' h0).mono fun e W' ⟨he, hj⟩ => ⟨he, .inl ⟨_, rfl, hj⟩⟩
  · refine (values1S_in F n h7 hro hn l Bs n₀ b off zs.length cap zs hreach hb J Jx hY W hc' hcs h0).mono ?_
    rintro e W' ⟨he, ⟨ys, rfl, hj⟩ | ⟨pre, ⟨k, hk, rfl⟩, hj⟩⟩
    · exact ⟨he, .inl ⟨_, uptoS_all zs, hj⟩⟩
    · exact ⟨he, .inr ⟨_, by rw [uptoS_take zs hk]; exact List.take_prefix _ _, hj⟩⟩
theorem Tryz.infoItS : (Tryz.prog.info? 9).map (fun i => (i.zero, i.size, i.bytes)) = some (some (.string ⟨#[]⟩), 1, 16) := by kernel_rfl
set_option maxRecDepth 100000 in
set_option maxHeartbeats 4000000 in
theorem appendseqS_in (F : Fence) (n : Nat) (h3 : F.fn 159) (h5 : F.fn 116) (hro : F.round = none) (hn : 3 ≤ n) (Bs n₀ : Nat) (sv : Value) (xs : List ByteArray) (hbytes : xs.length * 16 ≤ 140737488351232) (w : World) (hBs : Bs < w.heap.size) (hn₀ : n₀ ≤ w.heap.size) (hc0 : w.cell? ⟨Bs, 0, none⟩ = some sv) (hI : ElsS n₀ w sv xs) :
    CallsIn F n Tryz.prog 159 #[.slice none 0 0, .func (.func 116) #[] #[.pointer (some ⟨Bs, 0, none⟩)]] w fun e W' => ∃ v, e = .returned v ∧ W'.ownsRow w.heap.size 9 1 v xs.length (xs.map Value.string) ∧ Below w.heap.size w W' := by
  have h1 : 1 ≤ n := by omega
  obtain ⟨i0, hi, hz0, hz1, hz2⟩ := info_parts Tryz.infoItS
  refine callsIn_of_wp_marks Tryz.func159 rfl h3 ?_ hro
  simp only [Tryz.ntmps159, List.size_toArray, List.length_cons, List.length_nil, Nat.reduceAdd, Nat.reduceSub, Array.replicate_succ, Array.replicate_zero, List.push_toArray, List.append_toArray, List.nil_append, List.cons_append]
  gi_wp2
  have bO := Boxed.new w 55 (.slice none 0 0)
  have hB0 : Below w.heap.size w (w.alloc (.cells #[.slice none 0 0] 55)) := (Below.refl _ w).alloc (Nat.le_refl _) _
  have hc1 : (w.alloc (.cells #[.slice none 0 0] 55)).cell? ⟨Bs, 0, none⟩ = some sv := (hB0.cell (p := ⟨Bs, 0, none⟩) hBs).trans hc0
  refine wpIn_rangeFunc_ownG hro h1 (gf := 116) (lb := #[.pointer (some ⟨Bs, 0, none⟩)]) rfl h5 (enters_of Tryz.func116 (by kernel_rfl) rfl)
    (valuesS_stops F (n - 1) h5 hro (by omega) Bs n₀ sv xs hbytes _ (by simp; omega) (by simp; omega) hc1 (hI.below (hB0.mono hn₀))) belowK_t (belowK_b (by simp; omega)) (Below.refl _ _) (fun _ => rfl)
    (fun pre W => (∃ v, Boxed W w.heap.size 55 v ∧ W.ownsRow w.heap.size 9 1 v pre.length (pre.map Value.string) ∧ (v = .slice none 0 0 ↔ pre = [])) ∧ Below w.heap.size w W)
    (fun _ _ _ => False)
    (OwnFrom.and (Own.from (holdsRow_own w.heap.size w.heap.size 55 9 1 (fun pre => pre.length) (fun pre => pre.map Value.string) (fun pre v => v = .slice none 0 0 ↔ pre = [])) _) (ownFrom_below (Nat.le_refl _) (by simp)))
    (fun _ _ _ _ _ hs _ _ => hs)
    ⟨⟨_, bO, World.ownsRow_nil _ _ _ _, by simp⟩, hB0⟩
    (fun x => { tmps := #[.slice none 0 0, .func (.func 116) #[] #[.pointer (some ⟨Bs, 0, none⟩)], .pointer (some ⟨w.heap.size, 0, none⟩), undef, .slice none 0 0, Value.string x, .func (.func 116) #[] #[.pointer (some ⟨Bs, 0, none⟩)], Value.string x, undef, undef, undef, undef, undef], defers := [] }) ?assign ?body ?done ?stop
  case assign =>
    intro l x W K hK
    gi_wp2
    exact hK
  case body =>
    rintro l pre x W ⟨⟨v, hv, hrow, hnil⟩, hB⟩ hlt
    have hc := hv.cell
    gi_wp2_with (gi_at_builtin; refine wpListIn_append_own _ rfl _ _ 55 rfl w.heap.size 9 i0 (.string ⟨#[]⟩) 1 16 Tryz.underlying55 hi hz0 hz1 hz2 rfl (by decide) _ _ _ rfl (hrow.alloc _) ⟨W.heap.size, 0, none⟩ 1 1 [Value.string x] rfl rfl (cell_one_new _ _ _) (by simp [Value.oneCell']) (by unfold maxLen; omega) (by omega) (by have := hB.size; simp; omega) ?_; intro v' w1 hown' hgrow _; obtain ⟨g', cap', rfl⟩ := ownsRow_succ hown'; obtain ⟨hv1, hv2, hr2, hk2, hb2⟩ := hv.appended (by decide) hrow hB.size (Nat.le_refl _) hown' hgrow; have hc1 := hv1.cell; have hf1 := hv1.frozen)
    exact ⟨hk2.from _, hb2.mono hn₀, ⟨_, hv2, by simpa using hr2, by simp⟩, hB.trans hb2⟩
  case done =>
    rintro D ys W hD rfl ⟨⟨v, hv, hrow, hnil⟩, hB⟩ hK
    have hc := hv.cell
    gi_wp2
    refine ⟨by simp, .inl ⟨_, _, rfl, run_takeDeferred hK, ?_⟩⟩
    exact ⟨_, results_tmp rfl _ _ _, v, rfl, ownsRow_putObj hrow _ hK rfl, hB.trans (belowK_b (w := w) (Nat.le_refl _) W D _ _ (by simp at hD; omega) hK rfl rfl)⟩
  case stop =>
    rintro D c pre W _ _ h _
    exact h.elim
set_option maxHeartbeats 1000000 in
theorem collectS_in (F : Fence) (n : Nat) (h2 : F.fn 114) (h3 : F.fn 159) (h5 : F.fn 116) (hro : F.round = none) (hn : 4 ≤ n) (Bs n₀ : Nat) (sv : Value) (xs : List ByteArray) (hbytes : xs.length * 16 ≤ 140737488351232) (w : World) (hBs : Bs < w.heap.size) (hn₀ : n₀ ≤ w.heap.size) (hc0 : w.cell? ⟨Bs, 0, none⟩ = some sv) (hI : ElsS n₀ w sv xs) :
    CallsIn F n Tryz.prog 114 #[.func (.func 116) #[] #[.pointer (some ⟨Bs, 0, none⟩)]] w fun e W' => ∃ v, e = .returned v ∧ W'.ownsRow w.heap.size 9 1 v xs.length (xs.map Value.string) ∧ Below w.heap.size w W' := by
  have h1 : 1 ≤ n := by omega
  refine callsIn_of_wp Tryz.func114 rfl h2 ?_ hro
  simp only [Tryz.ntmps114, List.size_toArray, List.length_cons, List.length_nil, Nat.reduceAdd, Nat.reduceSub, Array.replicate_succ, Array.replicate_zero, List.push_toArray, List.append_toArray, List.nil_append, List.cons_append]
  gi_wp2_with (gi_at_call 159; refine (appendseqS_in F (n - 1) h3 h5 hro (by omega) Bs n₀ sv xs hbytes _ hBs hn₀ hc0 hI).mono ?_; rintro e w' ⟨v, rfl, hrow, hb⟩)
  go_ret
  exact ⟨v, rfl, hrow, hb⟩
/-- What slices.Collect of slices.Values answers: a row of one's own. -/
theorem collectS (Bs n₀ : Nat) (sv : Value) (xs : List ByteArray) (hbytes : xs.length * 16 ≤ 140737488351232) (w : World) (hBs : Bs < w.heap.size) (hn₀ : n₀ ≤ w.heap.size) (hc0 : w.cell? ⟨Bs, 0, none⟩ = some sv) (hI : ElsS n₀ w sv xs) :
    Calls Tryz.prog 114 #[.func (.func 116) #[] #[.pointer (some ⟨Bs, 0, none⟩)]] w fun e W' => ∃ v, e = .returned v ∧ W'.ownsRow w.heap.size 9 1 v xs.length (xs.map Value.string) ∧ Below w.heap.size w W' :=
  callsIn_wide.1 (collectS_in Fence.wide 4 trivial trivial trivial rfl (Nat.le_refl _) Bs n₀ sv xs hbytes w hBs hn₀ hc0 hI)
end Go.Proofs.YtmajlldfiiokoaaGreatDoor

/- Sorting of texts of one's own; rdv.Plan. -/
namespace Go.Proofs.YtmajlldfiiokoaaGreatDoor
open Go.ChangeShapes Go.WideShapes Go.ChangeAt Go.RowKit Go.Deep
set_option linter.unusedVariables false

def bytesL (s : ByteArray) : List UInt8 := s.data.toList
def ofBytes (l : List UInt8) : ByteArray := ⟨l.toArray⟩
theorem of_bytes (s : ByteArray) : ofBytes (bytesL s) = s := by cases s; simp [ofBytes, bytesL]
theorem bytes_of (l : List UInt8) : bytesL (ofBytes l) = l := by simp [ofBytes, bytesL]
theorem enc_bytes (s : ByteArray) : encStr (bytesL s) = .string s := by cases s; simp [encStr, bytesL]
/-- Texts, rising. -/
def sortS (l : List ByteArray) : List ByteArray := ((l.map bytesL).mergeSort (fun x y => decide (x ≤ y))).map ofBytes
/-- Texts, each once where it stands beside itself. -/
def onceS (l : List ByteArray) : List ByteArray := (Lib.compact (l.map bytesL)).map ofBytes
theorem sortS_perm (l : List ByteArray) : (sortS l).Perm l := by
  have h : ((l.map bytesL).mergeSort (fun x y => decide (x ≤ y))).Perm (l.map bytesL) := List.mergeSort_perm _ _
  have h2 := h.map ofBytes
  rw [List.map_map] at h2
  have e : l.map (ofBytes ∘ bytesL) = l := by
    rw [show (ofBytes ∘ bytesL) = id from funext of_bytes]; simp
  rw [e] at h2
  exact h2
theorem onceS_len (l : List ByteArray) : (onceS l).length ≤ l.length := by
  unfold onceS Lib.compact Lib.compactUpTo
  rw [List.length_map, List.length_map]
  exact Nat.le_trans (List.length_filter_le _ _) (by simp)
theorem onceS_mem (l : List ByteArray) : ∀ x ∈ onceS l, x ∈ l := fun x hx => by
  unfold onceS at hx
  obtain ⟨y, hy, rfl⟩ := List.mem_map.1 hx
  unfold Lib.compact Lib.compactUpTo at hy
  obtain ⟨j, hj, rfl⟩ := List.mem_map.1 hy
  have hl : j < l.length := by have := (List.mem_filter.1 hj).1; simpa using this
  have e : (l.map bytesL).toArray[j]! = bytesL l[j] := by simp [hl]
  rw [e, of_bytes]
  exact List.getElem_mem _
/-- slices.Sort of a row of texts of one's own. -/
theorem sort_ownS (B : Nat) (wr : World) (a : Option Addr) (n c : Nat) (l : List ByteArray) (h : wr.ownsRow B 9 1 (.slice a n c) n (l.map Value.string)) (hn : n ≤ 1000000) :
    Calls Tryz.prog 115 #[.slice a n c] wr fun e w' => e = .returned (.tuple #[]) ∧ w'.ownsRow B 9 1 (.slice a n c) n ((sortS l).map Value.string) ∧ wr.grownBy w' (Value.ownBlock (.slice a n c)) := by
  have hl : l.length = n := by have := h.1; simpa using this
  rcases h.2 with ⟨hv, h0⟩ | ⟨g, cap, cur, hv, hB, hg, hnc, hcm, hcs, ht⟩
  · have hL : l = [] := List.eq_nil_of_length_eq_zero (by omega)
    subst hL
    subst h0
    refine (Tryz.slices_Sort_string_none a c wr).mono ?_
    rintro e w' ⟨rfl, hw'⟩
    subst w'
    exact ⟨rfl, by simpa [sortS] using h, ⟨rfl, rfl, rfl, Nat.le_refl _, fun _ _ _ => rfl⟩⟩
  · simp only [Value.slice.injEq] at hv
    obtain ⟨rfl, _, rfl⟩ := hv
    have hes : (l.map bytesL).map encStr = l.map Value.string := by
      rw [List.map_map]; exact List.map_congr_left (fun s _ => enc_bytes s)
    have hlb : (l.map bytesL).length = n := by rw [List.length_map]; exact hl
    have ht' : cur.toList.take (l.map bytesL).length = (l.map bytesL).map encStr := by rw [Nat.mul_one] at ht; rw [hlb, hes]; exact ht
    have hh := holds_of_block hg ht'
    have hc := Tryz.slices_Sort_string g 0 c (l.map bytesL) wr hh (lt_of_block hg) (by omega)
    rw [hlb] at hc
    refine hc.mono ?_
    rintro e w' ⟨rfl, q, os, rfl⟩
    have hpl : ((l.map bytesL).mergeSort fun x y => decide (x ≤ y)).length = (l.map bytesL).length := List.length_mergeSort _
    have hro := ownsRow_sorted (n := q) (os := os) hpl hB hg (by rw [hlb]; exact hnc) hcm hcs
    rw [hlb] at hro
    have he2 : ((l.map bytesL).mergeSort fun x y => decide (x ≤ y)).map encStr = (sortS l).map Value.string := by
      unfold sortS
      rw [List.map_map]
      exact List.map_congr_left (fun b _ => by show encStr b = .string (ofBytes b); rw [← enc_bytes, bytes_of])
    rw [he2] at hro
    exact ⟨rfl, hro, grownBy_sorted _⟩
theorem values_s (a : Option Addr) (n c : Nat) (w : World) :
    Calls Tryz.prog 65 #[.slice a n c] w fun e w' => e = .returned (.func (.func 116) #[] #[.pointer (some ⟨w.heap.size, 0, none⟩)]) ∧ w' = w.alloc (.cells #[.slice a n c] 55) := by
  go_enter Tryz.func65, Tryz.ntmps65
  go_wp2
  go_ret
  exact ⟨rfl, rfl⟩
theorem els_ofS {w : World} {a : Option Addr} {n c : Nat} {l : List ByteArray} (h : StrIn w a n l) : ElsS w.heap.size w (.slice a n c) l := by
  have hl : l.length = n := h.1
  rcases h.2 with e | ⟨b, o, ha, hlt, hc⟩
  · subst e
    exact .inl ⟨a, c, rfl, List.eq_nil_of_length_eq_zero hl⟩
  · subst ha
    refine .inr ⟨b, o, c, by rw [hl], hlt, fun j hj => ?_⟩
    rw [hc j (by omega), List.getD_eq_getElem?_getD]
set_option maxHeartbeats 1000000 in
/-- slices.Sorted of slices.Values of texts. -/
theorem sorted_s (Bs n : Nat) (sv : Value) (xs : List ByteArray) (w : World) (hn : xs.length = n) (hBs : Bs < w.heap.size) (hc0 : w.cell? ⟨Bs, 0, none⟩ = some sv) (hI : ElsS w.heap.size w sv xs) (hl : xs.length ≤ 1000) :
    Calls Tryz.prog 64 #[.func (.func 116) #[] #[.pointer (some ⟨Bs, 0, none⟩)]] w fun e w' => (∃ a c, e = .returned (.slice a n c) ∧ w'.ownsRow w.heap.size 9 1 (.slice a n c) n ((sortS xs).map Value.string)) ∧ Below w.heap.size w w' := by
  have HC : Hid _ := collectS Bs w.heap.size sv xs (by omega) w hBs (Nat.le_refl _) hc0 hI
  clear hBs hc0 hI
  go_enter Tryz.func64, Tryz.ntmps64
  go_wp2_with fail
  refine Calls.mono HC.out ?_
  clear HC
  rintro e w1 ⟨v, rfl, hrow, b1⟩
  rw [hn] at hrow hl
  obtain ⟨a, c, rfl⟩ : ∃ a c, v = .slice a n c := by
    rcases hrow.2 with ⟨rfl, h1⟩ | ⟨g, cap, cur, hv, _⟩
    · exact ⟨none, 0, by rw [h1]⟩
    · exact ⟨_, _, hv⟩
  clear hn
  have HS : Hid _ := sort_ownS w.heap.size w1 a n c xs hrow (by omega)
  have HB : Hid (Below w.heap.size w w1 ∧ w1.ownsRow w.heap.size 9 1 (.slice a n c) n (xs.map Value.string)) := ⟨b1, hrow⟩
  clear hrow b1
  go_wp2_with fail
  refine Calls.mono HS.out ?_
  clear HS
  rintro e w2 ⟨rfl, hrow2, hg⟩
  have H2 : Hid (w2.ownsRow w.heap.size 9 1 (.slice a n c) n ((sortS xs).map Value.string) ∧ Below w.heap.size w w2) :=
    ⟨hrow2, HB.out.1.grown hg HB.out.1.size (fun k hk => (World.ownsRow.lt HB.out.2 k hk).1)⟩
  clear hrow2 hg
  go_wp2
  go_ret
  exact ⟨⟨_, _, rfl, H2.out.1⟩, H2.out.2⟩
theorem below_cellsS {B b : Nat} (hb : B ≤ b) : ∀ (vs : List Value) (o : Nat) (w : World), Below B w (w.setCells b o vs)
  | [], _, w => Below.refl _ _
  | v :: r, o, w => by rw [World.setCells]; exact ((Below.refl B w).setCell (p := ⟨b, o, none⟩) hb v).trans (below_cellsS hb r (o + 1) _)
theorem size_cellsS {b : Nat} : ∀ (vs : List Value) (o : Nat) (w : World), (w.setCells b o vs).heap.size = w.heap.size
  | [], _, w => rfl
  | v :: r, o, w => by rw [World.setCells, size_cellsS r (o + 1)]; simp [World.setCell]
/-- slices.Compact of a row of texts of one's own. -/
theorem compact_newS (B : Nat) (wr : World) (a : Option Addr) (n c : Nat) (L : List ByteArray) (h : wr.ownsRow B 9 1 (.slice a n c) n (L.map Value.string)) (hn : n ≤ 100000) :
    Calls Tryz.prog 63 #[.slice a n c] wr fun e w' => (∃ a' c', e = .returned (.slice a' (onceS L).length c') ∧ StrIn w' a' (onceS L).length (onceS L) ∧ ∀ b, a' = some b → B ≤ b.block) ∧ Below B wr w' := by
  have hl : L.length = n := by have := h.1; simpa using this
  rcases h.2 with ⟨hv, h0⟩ | ⟨g, cap, cur, hv, hB, hg, hnc, _, hcs, _⟩
  · have hL : L = [] := List.eq_nil_of_length_eq_zero (by omega)
    subst hL
    subst h0
    refine (Tryz.slices_Compact_string_empty a c wr).mono ?_
    rintro e w' ⟨rfl, hw'⟩
    subst w'
    exact ⟨⟨a, c, rfl, ⟨rfl, .inl rfl⟩, fun b hb => by simp only [Value.slice.injEq] at hv; rw [hv.1] at hb; cases hb⟩, Below.refl _ _⟩
  · have hcell := h.cells (g := g) (by rw [hv]; rfl)
    simp only [Value.slice.injEq] at hv
    obtain ⟨rfl, _, rfl⟩ := hv
    subst hl
    have hgl := lt_of_block hg
    have hc : ∀ i, i < L.length → wr.cell? ⟨g, 0 + i, none⟩ = some (.string (L.getD i ByteArray.empty)) := fun i hi => by
      have e := hcell i (.string (L.getD i ByteArray.empty)) (by simp [hi])
      rw [Addr.add_lit] at e
      exact e
    have hf : ∀ j, j < L.length → wr.frozen? ⟨g, 0 + j, none⟩ = false := fun j _ => by simp [World.frozen?, hg]
    have hs : Lib.strsOf (fun i => L.getD i ByteArray.empty) L.length = L.map bytesL := by
      unfold Lib.strsOf
      apply List.ext_getElem
      · simp
      · intro i h1 h2
        have hi : i < L.length := by simpa using h1
        simp [bytesL, hi]
    refine (Tryz.slices_Compact_string_cells g 0 L.length c (fun i => L.getD i ByteArray.empty) wr (by omega) hnc hc hf).mono ?_
    rw [hs]
    rintro e w' ⟨rfl, q, rfl⟩
    have hcl : (Lib.compact (L.map bytesL)).length ≤ L.length := by have := onceS_len L; simpa [onceS] using this
    refine ⟨⟨some ⟨g, 0, none⟩, c, by simp [onceS], ⟨rfl, ?_⟩, fun b hb => by cases hb; exact hB⟩, ?_⟩
    · refine .inr ⟨g, 0, rfl, ?_, fun j hj => ?_⟩
      · rw [size_cellsS]; exact hgl
      · have hj' : j < (Lib.compact (L.map bytesL)).length := by simpa [onceS] using hj
        have hin := World.cell?_setCells_in g ((Lib.compact (L.map bytesL) ++ List.replicate (L.length - (Lib.compact (L.map bytesL)).length) []).map encStr) 0 (wr.drewN q)
          (fun k hk => by
            have hk' : k < L.length := by simp at hk; omega
            have e := hc k hk'
            have e' : (wr.drewN q).cell? ⟨g, 0 + k, none⟩ = wr.cell? ⟨g, 0 + k, none⟩ := rfl
            rw [e', e]; rfl) j (by simp; omega)
        rw [hin]
        simp [onceS, encStr, ofBytes, hj']
    · have hb : Below B wr (wr.drewN q) := ⟨rfl, rfl, rfl, Nat.le_refl _, fun _ _ => rfl⟩
      exact hb.trans (below_cellsS hB _ _ _)
theorem compact_ownS (B : Nat) (wr : World) (a : Option Addr) (n c : Nat) (L : List ByteArray) (h : wr.ownsRow B 9 1 (.slice a n c) n (L.map Value.string)) (hn : n ≤ 100000) :
    Calls Tryz.prog 63 #[.slice a n c] wr fun e w' => (∃ a' c', e = .returned (.slice a' (onceS L).length c') ∧ StrIn w' a' (onceS L).length (onceS L)) ∧ Below B wr w' :=
  (compact_newS B wr a n c L h hn).mono (fun e w' h => by
    obtain ⟨⟨a, c3, h1, h2, _⟩, h3⟩ := h
    exact ⟨⟨a, c3, h1, h2⟩, h3⟩)
end Go.Proofs.YtmajlldfiiokoaaGreatDoor

/- rdv.Plan. -/
namespace Go.Proofs.YtmajlldfiiokoaaGreatDoor
open Go.ChangeShapes Go.WideShapes Go.ChangeAt Go.RowKit Go.Deep
set_option linter.unusedVariables false

abbrev Mv := ByteArray × Int × Int
/-- The moves of one group. -/
def MvIs (R1 R2 : Rg) (C1 C2 : List Int) (n1 n2 : Nat) (s : ByteArray) (M : List Mv) : Prop :=
  ∃ (k1 k2 : Nat) (T : List Int), ownerN (C1.map R1.idOf) (gkeyT s) = (k1 : Int) ∧ k1 < n1 ∧ ownerN (C2.map R2.idOf) (gkeyT s) = (k2 : Int) ∧ k2 < n2 ∧ T.Perm (keepL C2 k2) ∧ T.Pairwise (· ≤ ·) ∧ M = movesL s (C1.getD k1 0) (keepL C1 k1) T
def catM (F : Nat → List Mv) (n : Nat) : List Mv := (List.range n).flatMap F
theorem catM_upd (F : Nat → List Mv) (n : Nat) (M : List Mv) : catM (fun i => if i = n then M else F i) (n + 1) = catM F n ++ M := by
  unfold catM
  rw [List.range_succ, List.flatMap_append]
  congr 1
  · have : ∀ l : List Nat, (∀ x ∈ l, x ≠ n) → l.flatMap (fun i => if i = n then M else F i) = l.flatMap F := by
      intro l
      induction l with
      | nil => intro _; rfl
      | cons x l ih =>
        intro h
        simp only [List.flatMap_cons]
        rw [if_neg (h x (by simp)), ih (fun y hy => h y (by simp [hy]))]
    exact this _ (fun x hx => by have := List.mem_range.1 hx; omega)
  · simp
theorem src_ownM {w : World} {B n : Nat} {v : Value} {L : List Mv} (h : w.ownsRow B 69 3 v n (L.flatMap encM)) : Src Tryz.prog 3 63 v n (L.flatMap encM) w := by
  rcases h.2 with ⟨rfl, rfl⟩ | ⟨g, cap, cur, rfl, _⟩
  · have : L.flatMap encM = [] := List.eq_nil_of_length_eq_zero (by have := h.1; omega)
    rw [this]
    exact Src.ofNil w Tryz.underlying63 0
  · refine Src.ofSlice (e' := 69) w Tryz.underlying63 _ _ _ _ h.1 (fun j u hu => ?_) (fun u hu => ?_)
    · exact h.cells (g := g) rfl j u hu
    · obtain ⟨m, _, hm⟩ := List.mem_flatMap.1 hu
      unfold encM at hm
      simp at hm
      rcases hm with rfl | rfl | rfl <;> rfl
theorem MvIs.len {R1 R2 : Rg} {C1 C2 : List Int} {n1 n2 : Nat} {s : ByteArray} {M : List Mv} (h : MvIs R1 R2 C1 C2 n1 n2 s M) (h4 : 4 ≤ C2.length) (hn : n2 = C2.length) : M.length ≤ 3 := by
  obtain ⟨k1, k2, T, _, _, _, hk2, hp, _, rfl⟩ := h
  have := movesL_len s (C1.getD k1 0) (keepL C1 k1) T
  rw [hp.length_eq, keepL_len h4 (by omega)] at this
  exact this

theorem strin_below {w w' : World} {a : Option Addr} {len : Nat} {L : List ByteArray} (h : StrIn w a len L) (hb : Below w.heap.size w w') : StrIn w' a len L := by
  refine ⟨h.1, ?_⟩
  rcases h.2 with h0 | ⟨b, o, ha, hlt, hc⟩
  · exact .inl h0
  · exact .inr ⟨b, o, ha, by have := hb.size; omega, fun j hj => (hb.cell (p := ⟨b, o + j, none⟩) hlt).trans (hc j hj)⟩

set_option maxRecDepth 100000 in
set_option maxHeartbeats 4000000 in
theorem plan_c (R1 R2 : Rg) (C1 C2 : List Int) (g1 c1 d1 n1 g2 c2 d2 n2 : Nat) (b1 b2 : Option Addr) (na : Option Addr) (nn nc : Nat) (L : List ByteArray) (w : World) (h1 : CAt w R1 C1 g1 c1 d1 n1 b1) (h2 : CAt w R2 C2 g2 c2 d2 n2 b2) (hN : StrIn w na nn L) (hnn : nn ≤ 1000) (hsz : ∀ s ∈ L, s.size ≤ 200)
    (hst : ∀ s ∈ L, ∀ k : Nat, ownerN (C1.map R1.idOf) (gkeyT s) = (k : Int) → k < n1 → C1.getD k 0 ∈ C2) :
    Calls Tryz.prog 26 #[.agg #[.slice (some ⟨g1, 0, none⟩) n1 c1, .slice b1 n1 d1], .agg #[.slice (some ⟨g2, 0, none⟩) n2 c2, .slice b2 n2 d2], .slice na nn nc] w fun e w' =>
      (∃ v F, e = .returned v ∧ (∀ j, j < (onceS (sortS L)).length → MvIs R1 R2 C1 C2 n1 n2 ((onceS (sortS L)).getD j ByteArray.empty) (F j)) ∧ w'.ownsRow w.heap.size 69 3 v (catM F (onceS (sortS L)).length).length ((catM F (onceS (sortS L)).length).flatMap encM)) ∧ Below w.heap.size w w' := by
  obtain ⟨i0, hif, hz0, hz1, hz2⟩ := info_parts Tryz.infoMv
  obtain ⟨q, hq⟩ : ∃ q, q = w.heap.size := ⟨_, rfl⟩
  obtain ⟨W, hW⟩ : ∃ W, W = (w.alloc (.cells #[.slice (some ⟨g1, 0, none⟩) n1 c1, .slice b1 n1 d1] 50)).alloc (.cells #[.slice (some ⟨g2, 0, none⟩) n2 c2, .slice b2 n2 d2] 50) := ⟨_, rfl⟩
  have e1 : Below w.heap.size w (w.alloc (.cells #[.slice (some ⟨g1, 0, none⟩) n1 c1, .slice b1 n1 d1] 50)) := below_one _ _
  have e2 : Below (w.alloc (.cells #[.slice (some ⟨g1, 0, none⟩) n1 c1, .slice b1 n1 d1] 50)).heap.size (w.alloc (.cells #[.slice (some ⟨g1, 0, none⟩) n1 c1, .slice b1 n1 d1] 50)) W := by rw [hW]; exact below_one _ _
  have bW : Below w.heap.size w W := e1.trans (e2.mono e1.size)
  have x0 : W.cell? ⟨q, 0, none⟩ = some (.slice (some ⟨g1, 0, none⟩) n1 c1) := cell_grown (by rw [hq]; exact World.cell?_alloc_new ..) e2
  have x1 : W.cell? ⟨q, 1, none⟩ = some (.slice b1 n1 d1) := cell_grown (by rw [hq]; simp) e2
  have y0 : W.cell? ⟨q + 1, 0, none⟩ = some (.slice (some ⟨g2, 0, none⟩) n2 c2) := by rw [hW, show q + 1 = (w.alloc (.cells #[.slice (some ⟨g1, 0, none⟩) n1 c1, .slice b1 n1 d1] 50)).heap.size by rw [hq]; simp]; exact World.cell?_alloc_new ..
  have y1 : W.cell? ⟨q + 1, 1, none⟩ = some (.slice b2 n2 d2) := by rw [hW, hq]; simp
  have hNW : StrIn W na nn L := strin_below hN bW
  have H1 : Hid (CAt W R1 C1 g1 c1 d1 n1 b1 ∧ CAt W R2 C2 g2 c2 d2 n2 b2 ∧ Below w.heap.size w W ∧ StrIn W na nn L) := ⟨h1.below bW, h2.below bW, bW, hNW⟩
  have HC : Hid (W.cell? ⟨q, 0, none⟩ = some (.slice (some ⟨g1, 0, none⟩) n1 c1) ∧ W.cell? ⟨q, 1, none⟩ = some (.slice b1 n1 d1) ∧ W.cell? ⟨q + 1, 0, none⟩ = some (.slice (some ⟨g2, 0, none⟩) n2 c2) ∧ W.cell? ⟨q + 1, 1, none⟩ = some (.slice b2 n2 d2)) := ⟨x0, x1, y0, y1⟩
  obtain ⟨N, hNe⟩ : ∃ N, N = onceS (sortS L) := ⟨_, rfl⟩
  have hNl : N.length ≤ nn := by rw [hNe]; have := onceS_len (sortS L); rw [(sortS_perm L).length_eq, hN.1] at this; exact this
  have HS : Hid (N = onceS (sortS L) ∧ (∀ s ∈ N, s.size ≤ 200) ∧ (∀ s ∈ N, ∀ k : Nat, ownerN (C1.map R1.idOf) (gkeyT s) = (k : Int) → k < n1 → C1.getD k 0 ∈ C2)) := by
    have hsub : ∀ s ∈ N, s ∈ L := fun s hs => by rw [hNe] at hs; exact (sortS_perm L).mem_iff.1 (onceS_mem _ s hs)
    exact ⟨hNe, fun s hs => hsz s (hsub s hs), fun s hs => hst s (hsub s hs)⟩
  have HLn : Hid (L.length = nn) := hN.1
  rw [← hNe]
  clear h1 h2 hN hsz hst e1 e2 bW hNW hNe x0 x1 y0 y1
  obtain ⟨nN, hnN⟩ : ∃ n, n = N.length := ⟨_, rfl⟩
  rw [← hnN] at hNl ⊢
  have HNN : Hid (nN = N.length) := hnN
  clear hnN
  go_enter Tryz.func26, Tryz.ntmps26
  go_upto_region 1 with fail
  rw [← hW]
  try rw [← hq]
  clear hW hq
  go_wp2_with fail
  refine (values_s na nn nc W).mono ?_
  rintro e w1 ⟨rfl, hw1⟩
  have bb1 : Below W.heap.size W w1 := by rw [hw1]; exact below_one _ _
  have z0 : w1.cell? ⟨W.heap.size, 0, none⟩ = some (.slice na nn nc) := by rw [hw1]; exact World.cell?_alloc_new ..
  have HSO : Hid _ := sorted_s W.heap.size nn (.slice na nn nc) L w1 HLn.out (cell_block z0) z0 (els_ofS (strin_below H1.out.2.2.2 bb1)) (by rw [HLn.out]; omega)
  have HB1 : Hid (Below W.heap.size W w1) := bb1
  clear hw1 z0 bb1
  go_wp2_with fail
  refine Calls.mono HSO.out ?_
  clear HSO
  rintro e w2 ⟨⟨sa, sc, rfl, hrow⟩, bb2⟩
  have HCO : Hid _ := compact_ownS w1.heap.size w2 sa nn sc (sortS L) hrow (by omega)
  have HB2 : Hid (Below W.heap.size W w2 ∧ w1.heap.size ≤ w2.heap.size ∧ W.heap.size ≤ w1.heap.size) := ⟨HB1.out.trans (bb2.mono HB1.out.size), bb2.size, HB1.out.size⟩
  clear hrow bb2
  go_wp2_with fail
  refine Calls.mono HCO.out ?_
  clear HCO
  rintro e w3 ⟨⟨ta, tc, rfl, hstr⟩, bb3⟩
  rw [← HS.out.1, ← HNN.out] at hstr ⊢
  have H3 : Hid (Below W.heap.size W w3 ∧ StrIn w3 ta nN N) := ⟨HB2.out.1.trans (bb3.mono HB2.out.2.2), hstr⟩
  clear hstr bb3 HB1 HB2
  go_wp2
  go_loopg [7, 15] nN (fun kx v st wr => ∃ (j : Nat) (a : Option Addr) (m c : Nat), st = .int .i64 j ∧ v = .slice a m c ∧ j ≤ nN ∧ m ≤ 3 * j ∧ kx = nN - j ∧ Hid (∃ F, (catM F j).length = m ∧ wr.ownsRow w3.heap.size 69 3 (.slice a m c) m ((catM F j).flatMap encM) ∧ Below w3.heap.size w3 wr ∧ ∀ i, i < j → MvIs R1 R2 C1 C2 n1 n2 (N.getD i ByteArray.empty) (F i)))
  case atStart => exact ⟨0, none, 0, 0, rfl, rfl, by omega, by omega, rfl, ⟨fun _ => [], rfl, World.ownsRow_nil _ _ _ _, Below.refl _ _, fun i hi => absurd hi (Nat.not_lt_zero _)⟩⟩
  case round =>
    obtain ⟨j, a, m, c, rfl, rfl, hj, hm, rfl, HB⟩ := hrel
    obtain ⟨F, hF1, hF2, hF3, hF4⟩ := HB.out
    have HF : Hid ((catM F j).length = m ∧ wr.ownsRow w3.heap.size 69 3 (.slice a m c) m ((catM F j).flatMap encM) ∧ Below w3.heap.size w3 wr ∧ ∀ i, i < j → MvIs R1 R2 C1 C2 n1 n2 (N.getD i ByteArray.empty) (F i)) := ⟨hF1, hF2, hF3, hF4⟩
    clear HB hF1 hF2 hF3 hF4
    have HBW : Hid (Below W.heap.size W wr) := H3.out.1.trans (HF.out.2.2.1.mono H3.out.1.size)
    by_cases hlt : j < nN
    · have hltI : (j : Int) < (nN : Int) := by omega
      have hsi := (strin_below H3.out.2 HF.out.2.2.1)
      obtain ⟨tb, to', hta, htl, htc⟩ := hsi.2.resolve_left (by omega)
      subst hta
      have htj := htc j hlt
      have hmem : N.getD j ByteArray.empty ∈ N := by rw [List.getD_eq_getElem?_getD, List.getElem?_eq_getElem (by rw [← HNN.out]; exact hlt)]; simp
      obtain ⟨s, hs⟩ : ∃ s, s = N.getD j ByteArray.empty := ⟨_, rfl⟩
      rw [← hs] at htj hmem
      have HSJ : Hid (s = N.getD j ByteArray.empty ∧ s.size ≤ 200) := ⟨hs, HS.out.2.1 s hmem⟩
      obtain ⟨k1, hk1, hk1n⟩ := (H1.out.1).own s
      obtain ⟨k2, hk2, hk2n⟩ := (H1.out.2.1).own s
      have HMC : Hid _ := moves_c R1 R2 C1 C2 g1 c1 d1 n1 k1 g2 c2 d2 n2 k2 b1 b2 s wr (H1.out.1.below HBW.out) (H1.out.2.1.below HBW.out) hk1 hk1n hk2 hk2n HSJ.out.2 (HS.out.2.2 s hmem k1 hk1 hk1n)
      have HKK : Hid (ownerN (C1.map R1.idOf) (gkeyT s) = (k1 : Int) ∧ k1 < n1 ∧ ownerN (C2.map R2.idOf) (gkeyT s) = (k2 : Int) ∧ k2 < n2) := ⟨hk1, hk1n, hk2, hk2n⟩
      have f0 := cell_grown HC.out.1 HBW.out
      have f1 := cell_grown HC.out.2.1 HBW.out
      have f2 := cell_grown HC.out.2.2.1 HBW.out
      have f3 := cell_grown HC.out.2.2.2 HBW.out
      have fl := cell_block f0
      have fk := cell_block f2
      clear hsi htc hs hmem hk1 hk1n hk2 hk2n
      go_wp2_with fail
      refine Calls.mono HMC.out ?_
      clear HMC f0 f1 f2 f3 fl fk htj htl
      rintro e w5 ⟨⟨v5, T, rfl, hp, hst, hrow5⟩, b5⟩
      obtain ⟨M, hM⟩ : ∃ M, M = movesL s (C1.getD k1 0) (keepL C1 k1) T := ⟨_, rfl⟩
      rw [← hM] at hrow5
      have hMI : MvIs R1 R2 C1 C2 n1 n2 s M := ⟨k1, k2, T, HKK.out.1, HKK.out.2.1, HKK.out.2.2.1, HKK.out.2.2.2, hp, hst, hM⟩
      have hMl : M.length ≤ 3 := hMI.len (by rw [H1.out.2.1.len]; exact H1.out.2.1.n4) H1.out.2.1.len.symm
      obtain ⟨ma, mc, rfl⟩ : ∃ ma mc, v5 = .slice ma M.length mc := by
        rcases hrow5.2 with ⟨rfl, e⟩ | ⟨g, cap, cur, hv, _⟩
        · exact ⟨none, 0, by rw [e]⟩
        · exact ⟨_, _, hv⟩
      obtain ⟨ml, hml⟩ : ∃ k, k = M.length := ⟨_, rfl⟩
      rw [← hml] at hrow5 hMl ⊢
      have HM : Hid (ml = M.length ∧ MvIs R1 R2 C1 C2 n1 n2 (N.getD j ByteArray.empty) M) := ⟨hml, by rw [← HSJ.out.1]; exact hMI⟩
      have HSR : Hid (Src Tryz.prog 3 63 (.slice ma ml mc) ml (M.flatMap encM) w5) := src_ownM hrow5
      have HA : Hid (w5.ownsRow w3.heap.size 69 3 (.slice a m c) m ((catM F j).flatMap encM)) := row_at HF.out.2.1 (fun z hz => b5.block _ (World.ownsRow.lt HF.out.2.1 z hz).2)
      have HB5 : Hid (Below w3.heap.size w3 w5) := HF.out.2.2.1.trans (b5.mono HF.out.2.2.1.size)
      have HSz : Hid (w3.heap.size ≤ w5.heap.size) := HB5.out.size
      clear hp hst hM hMI hml hrow5 b5 HKK
      go_wp2_with (at_builtin; go_loud (refine wpList_own_append3 _ rfl _ _ 63 63 rfl w3.heap.size 69 i0 _ 32 Tryz.underlying63 hif hz0 hz1 hz2 rfl _ _ _ rfl HA.out _ ml _ rfl HSR.out (by unfold maxLen; omega) (by omega) (by have := HSz.out; simp; omega) ?_))
      intro v' w8 ha
      obtain ⟨x8, k8, rfl⟩ := ha.shape
      have H8 : Hid (∃ F', (catM F' (j + 1)).length = m + ml ∧ w8.ownsRow w3.heap.size 69 3 (.slice x8 (m + ml) k8) (m + ml) ((catM F' (j + 1)).flatMap encM) ∧ Below w3.heap.size w3 w8 ∧ ∀ i, i < j + 1 → MvIs R1 R2 C1 C2 n1 n2 (N.getD i ByteArray.empty) (F' i)) := by
        refine ⟨fun i => if i = j then M else F i, ?_, ?_, HB5.out.grown ha.grown HB5.out.size (fun k hk => (World.ownsRow.lt HA.out k hk).1), fun i hi => ?_⟩
        · rw [catM_upd, List.length_append, HF.out.1, HM.out.1]
        · rw [catM_upd, List.flatMap_append]; exact ha.row
        · by_cases e : i = j
          · subst e; simp only [if_true]; exact HM.out.2
          · simp only [if_neg e]; exact HF.out.2.2.2 i (by omega)
      clear ha HA HSR HSz
      go_wp2
      go_roundg (nN - (j + 1))
      case measure => omega
      case rel => exact ⟨j + 1, x8, m + ml, k8, by go_num, rfl, by omega, by omega, rfl, H8⟩
    · obtain rfl : j = nN := by omega
      go_wp2
      go_ret
      have hb := H1.out.2.2.1.trans (HBW.out.mono H1.out.2.2.1.size)
      refine ⟨⟨_, F, rfl, HF.out.2.2.2, ?_⟩, hb⟩
      rw [HF.out.1]
      exact own_lower HF.out.2.1 (Nat.le_trans H1.out.2.2.1.size H3.out.1.size)
end Go.Proofs.YtmajlldfiiokoaaGreatDoor

/- The store of rdv in memory: New, put, Put and Wishes. -/
namespace Go.Proofs.YtmajlldfiiokoaaGreatDoor
open Go.ChangeShapes Go.WideShapes Go.ChangeAt Go.RowKit Go.Deep
set_option linter.unusedVariables false

theorem Tb.at {w w' : World} {B r : Nat} {v : Value} {X : List Ep} (h : Tb w B r v X) (hz : w.heap.size ≤ w'.heap.size) (hr : w'.heap[r]? = w.heap[r]?) (hv : ∀ b, v.ownBlock = some b → w'.heap[b]? = w.heap[b]?) (hx : ∀ x ∈ X, ∀ b, x.a = some b → w'.heap[b.block]? = w.heap[b.block]?) : Tb w' B r v X :=
  ⟨hr.trans h.box, h.lo, row_atJ h.row hv, h.ne, fun x hxm => ⟨(h.fil x hxm).str.at hz (hx x hxm), (h.fil x hxm).le, fun b hb => ⟨Nat.lt_of_lt_of_le ((h.fil x hxm).cl b hb).1 hz, ((h.fil x hxm).cl b hb).2⟩⟩, h.asc, h.le⟩

theorem lookK_snocI {m : List (Int × Value)} {n : Int} (h : lookK m n = none) (v : Value) (k : Int) : lookK (m ++ [(n, v)]) k = if k = n then some v else lookK m k := by
  induction m with
  | nil =>
    by_cases e : k = n
    · subst e; simp [lookK]
    · have : ¬ n = k := fun q => e q.symm
      simp [lookK, e, this]
  | cons p m ih =>
    by_cases hp : p.1 = k
    · have hk : ¬ k = n := fun e => by simp [lookK, hp, e] at h
      simp [lookK, hp, hk]
    · have h' : lookK m n = none := by
        by_cases q : p.1 = n
        · simp [lookK, q] at h
        · simpa [lookK, q] using h
      have := ih h'
      simp only [List.cons_append, lookK, hp, if_false]
      exact this
theorem lookK_delI (m : List (Int × Value)) (n k : Int) : lookK (m.filter (fun p => decide (p.1 ≠ n))) k = if k = n then none else lookK m k := by
  induction m with
  | nil => simp [lookK]
  | cons p m ih =>
    by_cases hp : p.1 = n
    · have : decide (p.1 ≠ n) = false := by simpa using hp
      rw [List.filter_cons_of_neg (by simpa using hp), ih]
      by_cases e : k = n
      · simp [e]
      · have : ¬ p.1 = k := fun q => e (q.symm.trans hp)
        simp [lookK, e, this]
    · rw [List.filter_cons_of_pos (by simpa using hp)]
      by_cases e : k = n
      · subst e
        rw [if_pos rfl] at ih ⊢
        simp only [lookK]
        rw [if_neg hp]
        exact ih
      · rw [if_neg e] at ih ⊢
        simp only [lookK]
        split
        · rfl
        · exact ih
theorem MpK.atI {w : World} {g : Nat} {m : List (Int × Value)} (h : MpK kvI w g m) : MpAt w g m := by
  obtain ⟨h1, es, c, h2, h3, _⟩ := h
  exact ⟨h1, es, c, h2, h3⟩

/-- The store: member n's table lies in the box R n, its row is V n, its entries are X n. -/
structure StI (B : Nat) (w0 w : World) (s g : Nat) (R : Int → Option Nat) (V : Int → Value) (X : Int → List Ep) : Prop where
  bel : Below B w0 w
  lo : B ≤ s ∧ B ≤ g ∧ s ≠ g ∧ B ≤ w.heap.size
  box : w.heap[s]? = some (.cells #[.map (some g)] 151 (0, 0))
  mp : ∃ m, MpK kvI w g m ∧ ∀ n, lookK m n = (R n).map (fun r => Value.pointer (some ⟨r, 0, none⟩))
  tab : ∀ n r, R n = some r → Tb w B r (V n) (X n)
  clr : ∀ n r, R n = some r → r ≠ s ∧ r ≠ g ∧ (V n).ownBlock ≠ some s ∧ (V n).ownBlock ≠ some g
  sep : ∀ n r k q, R n = some r → R k = some q → n ≠ k → r ≠ q ∧ (V n).ownBlock ≠ some q ∧ (∀ b, (V n).ownBlock = some b → (V k).ownBlock ≠ some b) ∧ ∀ x ∈ X k, ∀ b, x.a = some b → b.block ≠ r ∧ (V n).ownBlock ≠ some b.block
  fs : ∀ n r, R n = some r → ∀ x ∈ X n, ∀ b, x.a = some b → b.block ≠ g
section
variable {B : Nat} {w0 w : World} {s g : Nat} {R : Int → Option Nat} {V : Int → Value} {X : Int → List Ep}
theorem StI.below {w' : World} (h : StI B w0 w s g R V X) (hb : Below w.heap.size w w') : StI B w0 w' s g R V X := by
  obtain ⟨m, hm, hl⟩ := h.mp
  exact ⟨h.bel.trans (hb.mono h.lo.2.2.2), ⟨h.lo.1, h.lo.2.1, h.lo.2.2.1, Nat.le_trans h.lo.2.2.2 hb.size⟩, (hb.block s (lt_blk h.box)).trans h.box, ⟨m, hm.of_block (hb.block g hm.lt), hl⟩, fun n r hr => (h.tab n r hr).below hb, h.clr, h.sep, h.fs⟩
theorem StI.glt (h : StI B w0 w s g R V X) : g < w.heap.size := by obtain ⟨m, hm, _⟩ := h.mp; exact hm.lt
theorem StI.scell (h : StI B w0 w s g R V X) : w.cell? ⟨s, 0, none⟩ = some (.map (some g)) := by simp [World.cell?, h.box]
theorem StI.new {w2 : World} (w : World) (hw : w2 = (w.alloc (.map #[] 0)).alloc (.cells #[.map (some w.heap.size)] 151)) : StI w.heap.size w w2 (w.heap.size + 1) w.heap.size (fun _ => none) (fun _ => .slice none 0 0) (fun _ => []) := by
  have e : (w.alloc (.map #[] 0)).heap.size = w.heap.size + 1 := by simp
  have b1 : Below w.heap.size w (w.alloc (.map #[] 0)) := (Below.refl _ _).alloc (Nat.le_refl _) _
  have b2 : Below (w.alloc (.map #[] 0)).heap.size (w.alloc (.map #[] 0)) w2 := by rw [hw]; exact below_one _ _
  refine ⟨b1.trans (b2.mono (by omega)), ⟨by omega, Nat.le_refl _, by omega, by rw [hw]; simp; omega⟩, ?_, ⟨[], (MpK.made w).of_block (b2.block _ (by omega)), fun n => rfl⟩, (fun n r hr => by cases hr), (fun n r hr => by cases hr), (fun n r k q hr => by cases hr), (fun n r hr => by cases hr)⟩
  rw [hw, ← e]
  exact heap_alloc_new _ _

/-- One member's table is written. -/
theorem StI.upd {n : Int} {r : Nat} {w' : World} {v' : Value} {X' : List Ep} (h : StI B w0 w s g R V X) (hr : R n = some r) (hK : KT w w' r (V n) v') (hT : Tb w' B r v' X') (hX : ∀ x ∈ X', x ∈ X n ∨ ∀ b, x.a = some b → w.heap.size ≤ b.block) : StI B w0 w' s g R (upd V n v') (upd X n X') := by
  have ht := h.tab n r hr
  have hc := h.clr n r hr
  have hsl : s < w.heap.size := lt_blk h.box
  have hgl := h.glt
  obtain ⟨m, hm, hl⟩ := h.mp
  refine ⟨h.bel.trans (hK.below ht.lo ht.vlo h.lo.2.2.2), ⟨h.lo.1, h.lo.2.1, h.lo.2.2.1, Nat.le_trans h.lo.2.2.2 hK.size⟩, (hK.block s hsl (Ne.symm hc.1) hc.2.2.1).trans h.box, ⟨m, hm.of_block (hK.block g hm.lt (Ne.symm hc.2.1) hc.2.2.2), hl⟩, fun k q hk => ?_, fun k q hk => ?_, fun a p k q ha hk hne => ?_, fun k q hk => ?_⟩
  · by_cases e : k = n
    · subst e
      rw [hr] at hk
      cases hk
      simp only [Go.Proofs.YtmajlldfiiokoaaGreatDoor.upd, if_true]
      exact hT
    · simp only [Go.Proofs.YtmajlldfiiokoaaGreatDoor.upd, if_neg e]
      have s1 := h.sep n r k q hr hk (Ne.symm e)
      have s2 := h.sep k q n r hk hr e
      have hq := h.tab k q hk
      exact hq.at hK.size (hK.block q hq.lt (Ne.symm s1.1) s1.2.1) (fun b hb => hK.block b (hq.row.lt b hb).2 (fun e2 => s2.2.1 (by rw [hb, e2])) (fun e2 => s1.2.2.1 b e2 hb)) (fun x hx b hb => hK.block b.block ((hq.fil x hx).cl b hb).1 (s1.2.2.2 x hx b hb).1 (s1.2.2.2 x hx b hb).2)
  · by_cases e : k = n
    · subst e
      rw [hr] at hk
      cases hk
      simp only [Go.Proofs.YtmajlldfiiokoaaGreatDoor.upd, if_true]
      refine ⟨hc.1, hc.2.1, fun e => ?_, fun e => ?_⟩
      · rcases hK.own s e with q | q
        · exact hc.2.2.1 q
        · omega
      · rcases hK.own g e with q | q
        · exact hc.2.2.2 q
        · omega
    · simp only [Go.Proofs.YtmajlldfiiokoaaGreatDoor.upd, if_neg e]
      exact h.clr k q hk
  · by_cases e1 : a = n
    · subst e1
      have e2 : k ≠ a := Ne.symm hne
      rw [hr] at ha
      cases ha
      have s1 := h.sep a r k q hr hk hne
      have hq := h.tab k q hk
      simp only [Go.Proofs.YtmajlldfiiokoaaGreatDoor.upd, if_true, if_neg e2]
      refine ⟨s1.1, fun e => ?_, fun b hb => ?_, fun x hx b hb => ⟨(s1.2.2.2 x hx b hb).1, fun e => ?_⟩⟩
      · rcases hK.own q e with z | z
        · exact s1.2.1 z
        · have := hq.lt; omega
      · rcases hK.own b hb with z | z
        · exact s1.2.2.1 b z
        · intro e; have := (hq.row.lt b e).2; omega
      · rcases hK.own b.block e with z | z
        · exact (s1.2.2.2 x hx b hb).2 z
        · have := ((hq.fil x hx).cl b hb).1; omega
    · by_cases e2 : k = n
      · subst e2
        rw [hr] at hk
        cases hk
        have s1 := h.sep a p k r ha hr hne
        have hp := h.tab a p ha
        simp only [Go.Proofs.YtmajlldfiiokoaaGreatDoor.upd, if_true, if_neg e1]
        refine ⟨s1.1, s1.2.1, fun b hb e => ?_, fun x hx b hb => ?_⟩
        · rcases hK.own b e with z | z
          · exact s1.2.2.1 b hb z
          · have := (hp.row.lt b hb).2; omega
        · rcases hX x hx with z | z
          · exact s1.2.2.2 x z b hb
          · have hz := z b hb
            exact ⟨by have := hp.lt; omega, fun e => by have := (hp.row.lt b.block e).2; omega⟩
      · simp only [Go.Proofs.YtmajlldfiiokoaaGreatDoor.upd, if_neg e1, if_neg e2]
        exact h.sep a p k q ha hk hne
  · by_cases e : k = n
    · subst e
      simp only [Go.Proofs.YtmajlldfiiokoaaGreatDoor.upd, if_true]
      intro x hx b hb
      rcases hX x hx with z | z
      · exact h.fs k r hr x z b hb
      · have := z b hb; omega
    · simp only [Go.Proofs.YtmajlldfiiokoaaGreatDoor.upd, if_neg e]
      exact h.fs k q hk

/-- A member more, its table empty. -/
theorem StI.grow {n : Int} {W : World} {z : Nat} (h : StI B w0 w s g R V X) (hn : R n = none) (hW : W = w.alloc (.cells #[.slice none 0 0] 200)) (hz : z = w.heap.size) :
    ∃ w', (Instr.mapUpdate 149 (.map (some g)) (.int .i64 n) (.pointer (some ⟨z, 0, none⟩))).run Tryz.prog W = .ok () w' ∧ StI B w0 w' s g (Go.Proofs.YtmajlldfiiokoaaGreatDoor.upd R n (some z)) (Go.Proofs.YtmajlldfiiokoaaGreatDoor.upd V n (.slice none 0 0)) (Go.Proofs.YtmajlldfiiokoaaGreatDoor.upd X n []) ∧ Kp w w' g g := by
  have bW : Below w.heap.size w W := by rw [hW]; exact below_one _ _
  have hzW : W.heap.size = z + 1 := by rw [hW, hz]; simp
  have hN : W.heap[z]? = some (.cells #[.slice none 0 0] 200 (0, 0)) := by rw [hW, hz]; exact heap_alloc_new _ _
  clear hW
  subst hz
  obtain ⟨m, hm, hl⟩ := h.mp
  have hgl := hm.lt
  have hsl : s < w.heap.size := lt_blk h.box
  obtain ⟨o, h1, h2⟩ := (hm.of_block (bW.block g hgl)).put key_int Tryz.underlying149 (k := n) (by rw [hl, hn]; rfl) (.pointer (some ⟨w.heap.size, 0, none⟩))
  have kp : Kp w (Go.ChangeMaps.setBlock W g o) g g := (Kp.ofBelow bW).trans (Kp.setP W g g o)
  have hN2 : (Go.ChangeMaps.setBlock W g o).heap[w.heap.size]? = some (.cells #[.slice none 0 0] 200 (0, 0)) := by
    rw [setB_other (by omega)]; exact hN
  refine ⟨_, h1, ⟨h.bel.trans (kp.below h.lo.2.1 h.lo.2.1 h.lo.2.2.2), ⟨h.lo.1, h.lo.2.1, h.lo.2.2.1, Nat.le_trans h.lo.2.2.2 kp.size⟩, (kp.block s hsl h.lo.2.2.1 h.lo.2.2.1).trans h.box, ⟨_, h2, fun k => ?_⟩, fun k q hk => ?_, fun k q hk => ?_, fun a p k q ha hk hne => ?_, fun k q hk => ?_⟩, kp⟩
  · rw [lookK_snocI (by rw [hl, hn]; rfl), hl]
    simp only [Go.Proofs.YtmajlldfiiokoaaGreatDoor.upd]
    split <;> rfl
  · by_cases e : k = n
    · subst e
      simp only [Go.Proofs.YtmajlldfiiokoaaGreatDoor.upd, if_true] at hk ⊢
      cases hk
      exact ⟨hN2, h.lo.2.2.2, World.ownsRow_nil _ _ _ _, by simp [Value.ownBlock], (fun x hx => by cases hx), List.Pairwise.nil, by simp⟩
    · simp only [Go.Proofs.YtmajlldfiiokoaaGreatDoor.upd, if_neg e] at hk ⊢
      have hq := h.tab k q hk
      have hcl := h.clr k q hk
      exact hq.at kp.size (kp.block q hq.lt hcl.2.1 hcl.2.1) (fun b hb => by have e2 : b ≠ g := fun e2 => hcl.2.2.2 (by rw [hb, e2]); exact kp.block b (hq.row.lt b hb).2 e2 e2) (fun x hx b hb => kp.block b.block ((hq.fil x hx).cl b hb).1 (h.fs k q hk x hx b hb) (h.fs k q hk x hx b hb))
  · by_cases e : k = n
    · subst e
      simp only [Go.Proofs.YtmajlldfiiokoaaGreatDoor.upd, if_true] at hk ⊢
      cases hk
      exact ⟨by omega, by omega, by simp [Value.ownBlock], by simp [Value.ownBlock]⟩
    · simp only [Go.Proofs.YtmajlldfiiokoaaGreatDoor.upd, if_neg e] at hk ⊢
      exact h.clr k q hk
  · by_cases e1 : a = n
    · subst e1
      have e2 : k ≠ a := Ne.symm hne
      simp only [Go.Proofs.YtmajlldfiiokoaaGreatDoor.upd, if_true, if_neg e2] at ha hk ⊢
      cases ha
      have hq := h.tab k q hk
      exact ⟨by have := hq.lt; omega, by simp [Value.ownBlock], (fun b hb => by simp [Value.ownBlock] at hb), fun x hx b hb => ⟨by have := ((hq.fil x hx).cl b hb).1; omega, by simp [Value.ownBlock]⟩⟩
    · by_cases e2 : k = n
      · subst e2
        simp only [Go.Proofs.YtmajlldfiiokoaaGreatDoor.upd, if_true, if_neg e1] at ha hk ⊢
        cases hk
        have hp := h.tab a p ha
        exact ⟨by have := hp.lt; omega, fun e => by have := (hp.row.lt _ e).2; omega, (fun b hb => by simp [Value.ownBlock]), (fun x hx => by cases hx)⟩
      · simp only [Go.Proofs.YtmajlldfiiokoaaGreatDoor.upd, if_neg e1, if_neg e2] at ha hk ⊢
        exact h.sep a p k q ha hk hne
  · by_cases e : k = n
    · subst e
      simp only [Go.Proofs.YtmajlldfiiokoaaGreatDoor.upd, if_true]
      intro x hx; cases hx
    · simp only [Go.Proofs.YtmajlldfiiokoaaGreatDoor.upd, if_neg e] at hk ⊢
      exact h.fs k q hk
/-- A member's table is lost. -/
theorem StI.gone (n : Int) (h : StI B w0 w s g R V X) (ty ty2 : TypeId) :
    ∃ w', (Builtin.delete_ #[149, ty2] ty #[.map (some g), .int .i64 n]).run Tryz.prog w = .ok (.tuple #[]) w' ∧ StI B w0 w' s g (Go.Proofs.YtmajlldfiiokoaaGreatDoor.upd R n none) V (Go.Proofs.YtmajlldfiiokoaaGreatDoor.upd X n []) ∧ Kp w w' g g := by
  obtain ⟨m, hm, hl⟩ := h.mp
  have hgl := hm.lt
  have hsl : s < w.heap.size := lt_blk h.box
  obtain ⟨o, h1, h2⟩ := hm.del key_int Tryz.underlying149 n ty ty2
  have kp : Kp w (Go.ChangeMaps.setBlock w g o) g g := Kp.setP w g g o
  have hne : ∀ k r, Go.Proofs.YtmajlldfiiokoaaGreatDoor.upd R n none k = some r → k ≠ n ∧ R k = some r := fun k r hk => by
    by_cases e : k = n
    · subst e; simp [Go.Proofs.YtmajlldfiiokoaaGreatDoor.upd] at hk
    · simp only [Go.Proofs.YtmajlldfiiokoaaGreatDoor.upd, if_neg e] at hk; exact ⟨e, hk⟩
  refine ⟨_, h1, ⟨h.bel.trans (kp.below h.lo.2.1 h.lo.2.1 h.lo.2.2.2), ⟨h.lo.1, h.lo.2.1, h.lo.2.2.1, Nat.le_trans h.lo.2.2.2 kp.size⟩, (kp.block s hsl h.lo.2.2.1 h.lo.2.2.1).trans h.box, ⟨_, h2, fun k => ?_⟩, fun k q hk => ?_, fun k q hk => ?_, fun a p k q ha hk hne' => ?_, fun k q hk => ?_⟩, kp⟩
  · rw [lookK_delI, hl]
    simp only [Go.Proofs.YtmajlldfiiokoaaGreatDoor.upd]
    split <;> rfl
  · obtain ⟨e, hk⟩ := hne k q hk
    simp only [Go.Proofs.YtmajlldfiiokoaaGreatDoor.upd, if_neg e]
    have hq := h.tab k q hk
    have hcl := h.clr k q hk
    exact hq.at kp.size (kp.block q hq.lt hcl.2.1 hcl.2.1) (fun b hb => by have e2 : b ≠ g := fun e2 => hcl.2.2.2 (by rw [hb, e2]); exact kp.block b (hq.row.lt b hb).2 e2 e2) (fun x hx b hb => kp.block b.block ((hq.fil x hx).cl b hb).1 (h.fs k q hk x hx b hb) (h.fs k q hk x hx b hb))
  · exact h.clr k q (hne k q hk).2
  · obtain ⟨e2, hk⟩ := hne k q hk
    simp only [Go.Proofs.YtmajlldfiiokoaaGreatDoor.upd, if_neg e2]
    exact h.sep a p k q (hne a p ha).2 hk hne'
  · obtain ⟨e2, hk⟩ := hne k q hk
    simp only [Go.Proofs.YtmajlldfiiokoaaGreatDoor.upd, if_neg e2]
    exact h.fs k q hk
end
theorem zero_tp (w : World) : (zeroValue 154).run Tryz.prog w = .ok (.pointer none) w := by kernel_rfl
theorem StI.look_no {B : Nat} {w0 w : World} {s g : Nat} {R : Int → Option Nat} {V : Int → Value} {X : Int → List Ep} (h : StI B w0 w s g R V X) {n : Int} (hn : R n = none) : (Instr.lookup 149 (.map (some g)) (.int .i64 n) false).run Tryz.prog w = .ok (.pointer none) w := by
  obtain ⟨m, hm, hl⟩ := h.mp
  exact (hm.look_none key_int Tryz.underlying149 (zero_tp w) (by rw [hl, hn]; rfl)).2
theorem StI.look_at {B : Nat} {w0 w : World} {s g : Nat} {R : Int → Option Nat} {V : Int → Value} {X : Int → List Ep} (h : StI B w0 w s g R V X) {n : Int} {r : Nat} (hn : R n = some r) : (Instr.lookup 149 (.map (some g)) (.int .i64 n) false).run Tryz.prog w = .ok (.pointer (some ⟨r, 0, none⟩)) w := by
  obtain ⟨m, hm, hl⟩ := h.mp
  exact (hm.look_some key_int Tryz.underlying149 (by rw [hl, hn]; rfl)).2

set_option maxHeartbeats 2000000 in
theorem rnew_s (w : World) : Calls Tryz.prog 36 #[] w fun e w' => e = .returned (.pointer (some ⟨w.heap.size + 1, 0, none⟩)) ∧ w' = (w.alloc (.map #[] 0)).alloc (.cells #[.map (some w.heap.size)] 151) := by
  have hmm := @run_makeMap Tryz.prog
  go_enter Tryz.func36, Tryz.ntmps36
  go_wp2
  go_ret
  exact ⟨by simp, rfl⟩

set_option maxRecDepth 100000 in
set_option maxHeartbeats 4000000 in
/-- A wish, at a member that has no table. -/
theorem sput_new {B : Nat} {w0 : World} {s g : Nat} {R : Int → Option Nat} {V : Int → Value} {X : Int → List Ep} (n : Int) (gr : ByteArray) (c : Int) (fa : Option Addr) (fl fc : Nat) (any : Bool) (till : Int) (fs : List ByteArray) (w : World) (h : StI B w0 w s g R V X) (hn : R n = none) (hf : StrIn w fa fl fs) (hfl : fl ≤ 100000) (hfg : ∀ b, fa = some b → b.block ≠ g) :
    Calls Tryz.prog 83 #[.pointer (some ⟨s, 0, none⟩), .int .i64 n, .agg #[.string gr, .int .i64 c, .slice fa fl fc, .bool any, .int .i64 till]] w fun e w' =>
      e = .returned .nilIface ∧ ∃ r v' x', (x'.key = (gr, c) ∧ x'.till = till ∧ x'.want = cleanW (any, fs)) ∧ StI B w0 w' s g (upd R n (some r)) (upd V n v') (upd X n [x']) ∧ Kp w w' g g ∧ w.heap.size ≤ r ∧ ∀ b, v'.ownBlock = some b → w.heap.size ≤ b := by
  obtain ⟨W, hW⟩ : ∃ W, W = w.alloc (.cells #[.string gr, .int .i64 c, .slice fa fl fc, .bool any, .int .i64 till] 89) := ⟨_, rfl⟩
  obtain ⟨q, hq⟩ : ∃ q, q = w.heap.size := ⟨_, rfl⟩
  have bW : Below w.heap.size w W := by rw [hW]; exact below_one _ _
  have hgl := h.glt
  have hbox : W.heap[q]? = some (.cells #[.string gr, .int .i64 c, .slice fa fl fc, .bool any, .int .i64 till] 89 (0, 0)) := by rw [hW, hq]; exact heap_alloc_new _ _
  have hS := h.below bW
  obtain ⟨W2, hW2⟩ : ∃ W2, W2 = W.alloc (.cells #[.slice none 0 0] 200) := ⟨_, rfl⟩
  obtain ⟨z, hz⟩ : ∃ z, z = W.heap.size := ⟨_, rfl⟩
  obtain ⟨w3, e3, h3, k3⟩ := hS.grow hn hW2 hz
  have k03 : Kp w w3 g g := (Kp.ofBelow bW).trans k3
  have hqg : q ≠ g := by omega
  have hb3 : w3.heap[q]? = some (.cells #[.string gr, .int .i64 c, .slice fa fl fc, .bool any, .int .i64 till] 89 (0, 0)) := (k3.block q (lt_blk hbox) hqg hqg).trans hbox
  have hr3 : (upd R n (some z)) n = some z := by simp [upd]
  have hT3 := h3.tab n z hr3
  have ev : (upd V n (Value.slice none 0 0)) n = .slice none 0 0 := by simp [upd]
  have ex : (upd X n []) n = [] := by simp [upd]
  rw [ev, ex] at hT3
  have hf3 : StrIn w3 fa fl fs := by
    rcases hf.2 with h0 | ⟨b', o, ha, hlt, _⟩
    · exact ⟨hf.1, .inl h0⟩
    · exact hf.at k03.size (fun b hb => k03.block b.block (by rw [ha] at hb; cases hb; exact hlt) (hfg b hb) (hfg b hb))
  have HP : Hid _ := put_any B z (.slice none 0 0) [] gr c fa fl fc any till fs w3 hT3 hf3 hfl h3.lo.2.2.2 (.inr (by simp))
  have H3 : Hid (StI B w0 w3 s g (upd R n (some z)) (upd V n (.slice none 0 0)) (upd X n []) ∧ Kp w w3 g g ∧ w.heap.size ≤ z) := ⟨h3, k03, by rw [hz]; exact bW.size⟩
  have sc := hS.scell
  have sl := cell_block sc
  have lk := hS.look_no hn
  have sc2 : W2.cell? ⟨s, 0, none⟩ = some (.map (some g)) := cell_grown sc (by rw [hW2]; exact below_one _ _)
  have y0 : w3.cell? ⟨q, 0, none⟩ = some (.string gr) := by simp [World.cell?, hb3]
  have y1 : w3.cell? ⟨q, 1, none⟩ = some (.int .i64 c) := by simp [World.cell?, hb3]
  have y2 : w3.cell? ⟨q, 2, none⟩ = some (.slice fa fl fc) := by simp [World.cell?, hb3]
  have y3 : w3.cell? ⟨q, 3, none⟩ = some (.bool any) := by simp [World.cell?, hb3]
  have y4 : w3.cell? ⟨q, 4, none⟩ = some (.int .i64 till) := by simp [World.cell?, hb3]
  have yl := lt_blk hb3
  clear h hS h3 k3 k03 hT3 hf hf3 hfg hbox hb3 bW ev ex hr3 hn hgl hqg
  go_enter Tryz.func83, Tryz.ntmps83
  go_upto_region 1 with fail
  rw [← hW]
  try rw [← hq]
  clear hW hq
  go_upto_region 4 with fail
  rw [← hW2]
  try rw [← hz]
  clear hW2 hz
  go_wp2_with fail
  refine Calls.mono HP.out ?_
  clear HP
  rintro e w4 ⟨rfl, v', x', hx, hT, hK, hxa⟩
  go_wp2
  go_ret
  refine ⟨rfl, z, v', x', hx, ?_, ?_, H3.out.2.2, fun b hb => ?_⟩
  · have := H3.out.1.upd (n := n) (r := z) (w' := w4) (v' := v') (X' := [x']) (by simp [upd]) (by simpa [upd] using hK) hT (fun x hx => .inr (by simp at hx; subst hx; exact hxa))
    have e1 : ∀ {α : Type} (f : Int → α) (a b : α), upd (upd f n a) n b = upd f n b := fun f a b => by funext k; simp only [upd]; split <;> rfl
    rw [e1, e1] at this
    exact this
  · have k4 := H3.out.2.1
    refine ⟨hK.os.trans k4.os, hK.tape.trans k4.tape, hK.output.trans k4.output, Nat.le_trans k4.size hK.size, fun b hb h1 h2 => ?_⟩
    exact (hK.block b (Nat.lt_of_lt_of_le hb k4.size) (by have := H3.out.2.2; omega) (by simp [Value.ownBlock])).trans (k4.block b hb h1 h2)
  · rcases hK.own b hb with q | q
    · simp [Value.ownBlock] at q
    · exact Nat.le_trans H3.out.2.1.size q
set_option maxHeartbeats 2000000 in
/-- A member's wishes of a group. -/
theorem swishes {B : Nat} {w0 : World} {s g : Nat} {R : Int → Option Nat} {V : Int → Value} {X : Int → List Ep} (n : Int) (r : Nat) (name : ByteArray) (w : World) (h : StI B w0 w s g R V X) (hn : R n = some r) :
    Calls Tryz.prog 57 #[.pointer (some ⟨s, 0, none⟩), .int .i64 n, .string name] w fun e w' => ∃ v' Y, e = .returned v' ∧ ERow w w' v' Y ∧ Y.map Ep.core = ((X n).filter (ofG name)).map Ep.core := by
  have HC : Hid _ := children_any B r (V n) (X n) name w (h.tab n r hn)
  have sc := h.scell
  have sl := cell_block sc
  have lk := h.look_at hn
  clear h hn
  go_enter Tryz.func57, Tryz.ntmps57
  go_wp2_with fail
  refine Calls.mono HC.out ?_
  clear HC
  rintro e w1 ⟨v', Y, rfl, hE, hY⟩
  go_wp2
  go_ret
  exact ⟨v', Y, rfl, hE, hY⟩

theorem keepL_nodup {C : List Int} (h : C.Nodup) {k : Nat} (hk : k < C.length) : (keepL C k).Nodup := by
  have e : keepL C k = (C.drop k ++ C.take k).take 3 := by
    unfold keepL
    rw [List.drop_eq_getElem_cons hk, List.getD_eq_getElem?_getD, List.getElem?_eq_getElem hk]
    rfl
  rw [e]
  have hp : (C.drop k ++ C.take k).Perm C := by
    have := @List.perm_append_comm _ (C.drop k) (C.take k)
    rw [List.take_append_drop] at this
    exact this
  exact List.Sublist.nodup (List.take_sublist _ _) (hp.nodup_iff.2 h)
theorem CAt.nodup {w : World} {R : Rg} {C : List Int} {g c d n : Nat} {b : Option Addr} (h : CAt w R C g c d n b) : C.Nodup := h.cir.rise.imp (fun h e => by rw [e] at h; omega)

set_option maxRecDepth 100000 in
set_option maxHeartbeats 4000000 in
/-- A wish, at the keepers of its group, of whom nobody has a table. -/
theorem sputs_new {B : Nat} {w0 : World} {s g : Nat} {R : Int → Option Nat} {V : Int → Value} {X : Int → List Ep} (Rr : Rg) (C : List Int) (g1 c1 d1 n1 k : Nat) (b1 : Option Addr) (gr : ByteArray) (c : Int) (any : Bool) (till : Int) (w : World) (h : StI B w0 w s g R V X) (h1 : CAt w Rr C g1 c1 d1 n1 b1) (hk : ownerN (C.map Rr.idOf) (gkeyT gr) = (k : Int)) (hkn : k < n1) (hs : gr.size ≤ 200) (hno : ∀ x ∈ keepL C k, R x = none) :
    Calls Tryz.prog 40 #[.pointer (some ⟨s, 0, none⟩), .agg #[.slice (some ⟨g1, 0, none⟩) n1 c1, .slice b1 n1 d1], .agg #[.string gr, .int .i64 c, .slice none 0 0, .bool any, .int .i64 till]] w fun e w' =>
      e = .returned .nilIface ∧ ∃ R' V' X', StI B w0 w' s g R' V' X' ∧ ∀ x ∈ keepL C k, ∃ r y, R' x = some r ∧ X' x = [y] ∧ y.key = (gr, c) := by
  obtain ⟨q, hq⟩ : ∃ q, q = w.heap.size := ⟨_, rfl⟩
  obtain ⟨W, hW⟩ : ∃ W, W = (w.alloc (.cells #[.slice (some ⟨g1, 0, none⟩) n1 c1, .slice b1 n1 d1] 50)).alloc (.cells #[.string gr, .int .i64 c, .slice none 0 0, .bool any, .int .i64 till] 89) := ⟨_, rfl⟩
  obtain ⟨W1, hW1⟩ : ∃ W1, W1 = w.alloc (.cells #[.slice (some ⟨g1, 0, none⟩) n1 c1, .slice b1 n1 d1] 50) := ⟨_, rfl⟩
  have s1 : W1.heap.size = q + 1 := by rw [hW1, hq]; simp
  have e1 : Below w.heap.size w W1 := by rw [hW1]; exact below_one _ _
  have e2 : Below W1.heap.size W1 W := by rw [hW, ← hW1]; exact below_one _ _
  have bW : Below w.heap.size w W := e1.trans (e2.mono e1.size)
  have x0 : W.cell? ⟨q, 0, none⟩ = some (.slice (some ⟨g1, 0, none⟩) n1 c1) := cell_grown (by rw [hW1, hq]; exact World.cell?_alloc_new ..) e2
  have x1 : W.cell? ⟨q, 1, none⟩ = some (.slice b1 n1 d1) := cell_grown (by rw [hW1, hq]; simp) e2
  have hb : W.heap[q + 1]? = some (.cells #[.string gr, .int .i64 c, .slice none 0 0, .bool any, .int .i64 till] 89 (0, 0)) := by rw [hW, ← hW1, ← s1]; exact heap_alloc_new _ _
  have y0 : W.cell? ⟨q + 1, 0, none⟩ = some (.string gr) := by simp [World.cell?, hb]
  have y1 : W.cell? ⟨q + 1, 1, none⟩ = some (.int .i64 c) := by simp [World.cell?, hb]
  have y2 : W.cell? ⟨q + 1, 2, none⟩ = some (.slice none 0 0) := by simp [World.cell?, hb]
  have y3 : W.cell? ⟨q + 1, 3, none⟩ = some (.bool any) := by simp [World.cell?, hb]
  have y4 : W.cell? ⟨q + 1, 4, none⟩ = some (.int .i64 till) := by simp [World.cell?, hb]
  have xl := cell_block x0
  have yl := lt_blk hb
  have HG : Hid (q + 1 ≠ g) := by have := h.glt; unfold Hid; omega
  have HC : Hid (W.cell? ⟨q + 1, 0, none⟩ = some (.string gr) ∧ W.cell? ⟨q + 1, 1, none⟩ = some (.int .i64 c) ∧ W.cell? ⟨q + 1, 2, none⟩ = some (.slice none 0 0) ∧ W.cell? ⟨q + 1, 3, none⟩ = some (.bool any) ∧ W.cell? ⟨q + 1, 4, none⟩ = some (.int .i64 till)) := ⟨y0, y1, y2, y3, y4⟩
  have HS : Hid (StI B w0 W s g R V X) := h.below bW
  have HKC : Hid _ := keepers_c (h1.below bW) gr hk hkn hs
  have hl := h1.len
  have HND : Hid ((keepL C k).Nodup ∧ (keepL C k).length = 3) := ⟨keepL_nodup h1.nodup (by omega), keepL_len (by have := h1.n4; omega) (by omega)⟩
  obtain ⟨K, hK⟩ : ∃ K, K = keepL C k := ⟨_, rfl⟩
  rw [← hK] at HKC HND hno ⊢
  have HNO : Hid (∀ x ∈ K, R x = none) := hno
  clear h h1 hk hkn hs hno e1 e2 bW hW1 s1 hb hl hK y1 y2 y3 y4
  go_enter Tryz.func40, Tryz.ntmps40
  go_upto_region 1 with fail
  rw [← hW]
  try rw [← hq]
  clear hW hq
  go_wp2_with fail
  refine Calls.mono HKC.out ?_
  clear HKC
  rintro e w5 ⟨⟨ka, kc, rfl, hin⟩, b5⟩
  have H5 : Hid (InIn w5 ka 3 K ∧ Below W.heap.size W w5 ∧ StI B w0 w5 s g R V X) := ⟨hin, b5, HS.out.below b5⟩
  clear hin b5 HS x0 x1 xl y0 yl
  go_wp2
  go_loopg [21] 3 (fun kx sx wr => ∃ j : Nat, sx = .int .i64 j ∧ j ≤ 3 ∧ kx = 3 - j ∧ Hid (∃ R' V' X', StI B w0 wr s g R' V' X' ∧ Kp w5 wr g g ∧ (∀ i, i < j → ∃ r y, R' (K.getD i 0) = some r ∧ X' (K.getD i 0) = [y] ∧ y.key = (gr, c)) ∧ ∀ i, j ≤ i → i < 3 → R' (K.getD i 0) = none))
  case atStart => exact ⟨0, rfl, by omega, rfl, ⟨R, V, X, H5.out.2.2, Kp.refl _ _ _, fun i hi => absurd hi (Nat.not_lt_zero _), fun i _ hi => HNO.out _ (by rw [List.getD_eq_getElem?_getD, List.getElem?_eq_getElem (show i < K.length by have := HND.out.2; omega)]; simp)⟩⟩
  case round =>
    obtain ⟨j, rfl, hj, rfl, HB⟩ := hrel
    obtain ⟨R', V', X', a1, a2, a3, a4⟩ := HB.out
    have HI : Hid (StI B w0 wr s g R' V' X' ∧ Kp w5 wr g g ∧ (∀ i, i < j → ∃ r y, R' (K.getD i 0) = some r ∧ X' (K.getD i 0) = [y] ∧ y.key = (gr, c)) ∧ ∀ i, j ≤ i → i < 3 → R' (K.getD i 0) = none) := ⟨a1, a2, a3, a4⟩
    clear HB a1 a2 a3 a4
    by_cases hlt : j < 3
    · have hltI : (j : Int) < 3 := by omega
      have hin : InIn wr ka 3 K := by
        obtain ⟨m, hm, _⟩ := H5.out.2.2.mp
        exact InRow.kp H5.out.1 HI.out.2.1 hm.atI hm.atI
      obtain ⟨mb, mo, hmb, hml, _, hmc⟩ := hin.one (v := Value.int .i64) (fun _ => rfl) (i := j) hlt
      subst hmb
      obtain ⟨x, hx⟩ : ∃ x, x = K.getD j 0 := ⟨_, rfl⟩
      rw [← hx] at hmc
      have HX : Hid (x = K.getD j 0) := hx
      have kc0 := HI.out.2.1.cell (cell_grown HC.out.1 H5.out.2.1) HG.out HG.out
      have kc1 := HI.out.2.1.cell (cell_grown HC.out.2.1 H5.out.2.1) HG.out HG.out
      have kc2 := HI.out.2.1.cell (cell_grown HC.out.2.2.1 H5.out.2.1) HG.out HG.out
      have kc3 := HI.out.2.1.cell (cell_grown HC.out.2.2.2.1 H5.out.2.1) HG.out HG.out
      have kc4 := HI.out.2.1.cell (cell_grown HC.out.2.2.2.2 H5.out.2.1) HG.out HG.out
      have kl := cell_block kc0
      have HPT : Hid _ := sput_new x gr c none 0 0 any till [] wr HI.out.1 (by rw [hx]; exact HI.out.2.2.2 j (Nat.le_refl _) hlt) ⟨rfl, .inl rfl⟩ (by omega) (fun b hb => by cases hb)
      clear hin hx
      go_wp2_with fail
      refine Calls.mono HPT.out ?_
      clear HPT hmc hml kc0 kc1 kc2 kc3 kc4 kl
      rintro e w6 ⟨rfl, r, v', x', hxk, hst, kp, _⟩
      have hinj : ∀ i, i < 3 → i ≠ j → K.getD i 0 ≠ x := fun i hi hij e => by
        have l3 := HND.out.2
        rw [HX.out, List.getD_eq_getElem?_getD, List.getD_eq_getElem?_getD, List.getElem?_eq_getElem (show i < K.length by omega), List.getElem?_eq_getElem (show j < K.length by omega)] at e
        have hp := List.pairwise_iff_getElem.1 HND.out.1
        rcases Nat.lt_or_gt_of_ne hij with q | q
        · exact hp i j (by omega) (by omega) q (by simpa using e)
        · exact hp j i (by omega) (by omega) q (by simpa using e.symm)
      have H6 : Hid (∃ R' V' X', StI B w0 w6 s g R' V' X' ∧ Kp w5 w6 g g ∧ (∀ i, i < j + 1 → ∃ r y, R' (K.getD i 0) = some r ∧ X' (K.getD i 0) = [y] ∧ y.key = (gr, c)) ∧ ∀ i, j + 1 ≤ i → i < 3 → R' (K.getD i 0) = none) := by
        refine ⟨_, _, _, hst, HI.out.2.1.trans kp, fun i hi => ?_, fun i hi hi3 => ?_⟩
        · by_cases e : i = j
          · subst e
            refine ⟨r, x', ?_, ?_, hxk.1⟩ <;> simp only [upd, ← HX.out, if_true]
          · obtain ⟨r2, y2, p1, p2, p3⟩ := HI.out.2.2.1 i (by omega)
            have := hinj i (by omega) e
            exact ⟨r2, y2, by simp only [upd, if_neg this]; exact p1, by simp only [upd, if_neg this]; exact p2, p3⟩
        · have := hinj i hi3 (by omega)
          simp only [upd, if_neg this]
          exact HI.out.2.2.2 i (by omega) hi3
      clear hxk hst kp hinj HI
      go_wp2
      go_roundg (3 - (j + 1))
      case measure => omega
      case rel => exact ⟨j + 1, by go_num, by omega, rfl, H6⟩
    · obtain rfl : j = 3 := by omega
      go_wp2
      go_ret
      refine ⟨rfl, R', V', X', HI.out.1, fun x hx => ?_⟩
      obtain ⟨i, hi, he⟩ := List.getElem_of_mem hx
      have := HI.out.2.2.1 i (by have := HND.out.2; omega)
      rw [List.getD_eq_getElem?_getD, List.getElem?_eq_getElem hi] at this
      rw [← he]
      exact this
end Go.Proofs.YtmajlldfiiokoaaGreatDoor

/- Layer 21's answers that the document fixes. -/
namespace Go.Proofs.YtmajlldfiiokoaaGreatDoor
open Go.ChangeShapes Go.WideShapes Go.ChangeAt Go.RowKit Go.Deep
set_option linter.unusedVariables false

def sgR : ByteArray := ⟨#[103]⟩
theorem movesL_sub (s : ByteArray) (o : Int) {K T : List Int} (h : ∀ x ∈ T, x ∈ K) : movesL s o K T = [] := by
  unfold movesL
  rw [List.filter_eq_nil_iff.2 (fun x hx => by simp [h x hx])]
  rfl
theorem MvIs.same {R : Rg} {C : List Int} {n : Nat} {s : ByteArray} {M : List Mv} (h : MvIs R R C C n n s M) : M = [] := by
  obtain ⟨k1, k2, T, h1, _, h2, _, hp, _, rfl⟩ := h
  have e : k1 = k2 := by omega
  subst e
  exact movesL_sub _ _ (fun x hx => hp.mem_iff.1 hx)
theorem catM_nil (F : Nat → List Mv) : ∀ n, (∀ j, j < n → F j = []) → catM F n = []
  | 0, _ => rfl
  | n + 1, h => by
    unfold catM
    rw [List.range_succ, List.flatMap_append]
    have := catM_nil F n (fun j hj => h j (by omega))
    unfold catM at this
    rw [this]
    simp [h n (by omega)]
theorem own_len3 {w : World} {B n : Nat} {e : TypeId} {k : Nat} {v : Value} {xs : List Value} (h : w.ownsRow B e k v n xs) : ∃ a c, v = .slice a n c := by
  rcases h.2 with ⟨rfl, h2⟩ | ⟨g, cap, cur, hv, _⟩
  · exact ⟨none, 0, by rw [h2]⟩
  · exact ⟨_, _, hv⟩
theorem one_str (w : World) {W : World} (s : ByteArray) (h : W = w.alloc (.cells #[.string s] 9)) : StrIn W (some ⟨w.heap.size, 0, none⟩) 1 [s] := by
  have hz : W.heap[w.heap.size]? = some (.cells #[.string s] 9 (0, 0)) := by rw [h]; exact heap_alloc_new _ _
  refine ⟨rfl, .inr ⟨w.heap.size, 0, rfl, lt_blk hz, fun j hj => ?_⟩⟩
  have : j = 0 := by omega
  subst this
  simp [World.cell?, hz]

set_option maxRecDepth 100000 in
set_option maxHeartbeats 4000000 in
theorem awake21_any (w : World) : Calls Tryz.prog 23 #[] w fun e w' => e = .returned (.bool true) ∧ Below w.heap.size w w' := by
  go_enter Tryz.func23, Tryz.ntmps23
  go_wp2_with fail
  refine (base_r w).mono ?_
  rintro e w1 ⟨rfl, h1, b1⟩
  go_wp2_with fail
  refine (new_base _ _ _ h1).mono ?_
  rintro e w2 ⟨r, gp, gk, rfl, hr, l1, l2, l3, b2⟩
  have H2 : Hid (RingAt w2 r gp gk ringA ∧ Below w.heap.size w w2) := ⟨hr, b1.trans (b2.mono b1.size)⟩
  clear h1 b1 hr l1 l2 l3 b2
  go_wp2_with fail
  refine (of_c r gp gk ringA _ H2.out.1 ringA_inv).mono ?_
  rintro e w3 ⟨C, g, b, c, d, n, rfl, hc, hnl, b3⟩
  clear hnl
  obtain ⟨W4, hW4⟩ : ∃ W4, W4 = w3.alloc (.cells #[.slice (some ⟨g, 0, none⟩) n c, .slice b n d] 50) := ⟨_, rfl⟩
  obtain ⟨q, hq⟩ : ∃ q, q = w3.heap.size := ⟨_, rfl⟩
  have b4 : Below w3.heap.size w3 W4 := by rw [hW4]; exact below_one _ _
  have b34 : Below w2.heap.size w2 W4 := b3.trans (b4.mono b3.size)
  have x0 : W4.cell? ⟨q, 0, none⟩ = some (.slice (some ⟨g, 0, none⟩) n c) := by rw [hW4, hq]; exact World.cell?_alloc_new ..
  have x1 : W4.cell? ⟨q, 1, none⟩ = some (.slice b n d) := by rw [hW4, hq]; simp
  have H4 : Hid (CAt W4 ringA C g c d n b ∧ Below w.heap.size w W4 ∧ W4.cell? ⟨q, 0, none⟩ = some (.slice (some ⟨g, 0, none⟩) n c) ∧ W4.cell? ⟨q, 1, none⟩ = some (.slice b n d)) := ⟨hc.below b4, H2.out.2.trans (b34.mono H2.out.2.size), x0, x1⟩
  obtain ⟨k, hk, hkn⟩ := hc.own sgR
  have HK : Hid (ownerN (C.map ringA.idOf) (gkeyT sgR) = (k : Int) ∧ k < n) := ⟨hk, hkn⟩
  have xz := cell_block x0
  clear hc hk hkn b3 b4 b34
  go_upto_region 5 with fail
  rw [← hW4]
  try rw [← hq]
  clear hW4 hq
  have HKC : Hid _ := keepers_c H4.out.1 sgR HK.out.1 HK.out.2 (by decide)
  go_wp2_with fail
  refine Calls.mono HKC.out ?_
  clear HKC
  rintro e w5 ⟨⟨ka, kc, rfl, hin⟩, b5⟩
  have HL3 : Hid ((keepL C k).length = 3) := keepL_len (by rw [H4.out.1.len]; exact H4.out.1.n4) (by rw [H4.out.1.len]; exact HK.out.2)
  have H5 : Hid (InIn w5 ka 3 (keepL C k) ∧ CAt w5 ringA C g c d n b ∧ Below w.heap.size w w5 ∧ w5.cell? ⟨q, 0, none⟩ = some (.slice (some ⟨g, 0, none⟩) n c) ∧ w5.cell? ⟨q, 1, none⟩ = some (.slice b n d)) := ⟨hin, H4.out.1.below b5, H4.out.2.1.trans (b5.mono H4.out.2.1.size), cell_grown H4.out.2.2.1 b5, cell_grown H4.out.2.2.2 b5⟩
  clear hin b5 x0 x1 xz
  go_wp2_with fail
  refine (rnew_s _).mono ?_
  rintro e w6 ⟨rfl, hw6⟩
  have hs6 := StI.new w5 hw6
  obtain ⟨s, hs⟩ : ∃ s, s = w5.heap.size + 1 := ⟨_, rfl⟩
  rw [← hs] at hs6 ⊢
  have H6 : Hid (StI w5.heap.size w5 w6 s w5.heap.size (fun _ => none) (fun _ => .slice none 0 0) (fun _ => [])) := hs6
  have x0 := cell_grown H5.out.2.2.2.1 hs6.bel
  have x1 := cell_grown H5.out.2.2.2.2 hs6.bel
  have xz := cell_block x0
  have HPT : Hid _ := sputs_new ringA C g c d n k b sgR 7 false 0 w6 H6.out (H5.out.2.1.below hs6.bel) HK.out.1 HK.out.2 (by decide) (fun _ _ => rfl)
  clear hw6 hs6 hs
  go_wp2_with fail
  refine Calls.mono HPT.out ?_
  clear HPT x0 x1 xz
  rintro e w7 ⟨rfl, R', V', X', h7, hall⟩
  have H7 : Hid (StI w5.heap.size w5 w7 s w5.heap.size R' V' X' ∧ ∀ x ∈ keepL C k, ∃ r y, R' x = some r ∧ X' x = [y] ∧ y.key = (sgR, 7)) := ⟨h7, hall⟩
  have hin7 := H5.out.1.below (Nat.le_refl _) h7.bel
  obtain ⟨mb, mo, hmb, hml, _, hm0⟩ := hin7.one (v := Value.int .i64) (fun _ => rfl) (i := 0) (by omega)
  obtain ⟨mb2, mo2, hmb2, _, _, hm2⟩ := hin7.one (v := Value.int .i64) (fun _ => rfl) (i := 2) (by omega)
  subst hmb
  simp at hmb2
  obtain ⟨rfl, rfl⟩ := hmb2
  obtain ⟨y0, hy0⟩ : ∃ y, y = (keepL C k).getD 0 0 := ⟨_, rfl⟩
  obtain ⟨y2, hy2⟩ : ∃ y, y = (keepL C k).getD 2 0 := ⟨_, rfl⟩
  rw [← hy0, Nat.add_zero] at hm0
  rw [← hy2] at hm2
  have hmem : ∀ i, i < 3 → (keepL C k).getD i 0 ∈ keepL C k := fun i hi => by
    rw [List.getD_eq_getElem?_getD, List.getElem?_eq_getElem (show i < (keepL C k).length by have := HL3.out; omega)]; simp
  obtain ⟨r0, e0, p0, p1, p2⟩ := hall y0 (by rw [hy0]; exact hmem 0 (by omega))
  obtain ⟨r2, e2, t0, t1, t2⟩ := hall y2 (by rw [hy2]; exact hmem 2 (by omega))
  have hfil : ∀ y : Ep, y.key = (sgR, 7) → [y].filter (ofG sgR) = [y] := fun y hy => by
    have e : y.gr = sgR := congrArg Prod.fst hy
    simp [ofG, e]
  have HW0 : Hid _ := swishes y0 r0 sgR w7 h7 p0
  have HR2 : Hid (R' y2 = some r2 ∧ (X' y2).filter (ofG sgR) = [e2] ∧ (X' y0).filter (ofG sgR) = [e0]) := ⟨t0, by rw [t1]; exact hfil e2 t2, by rw [p1]; exact hfil e0 p2⟩
  have x0 := cell_grown H5.out.2.2.2.1 h7.bel
  have x1 := cell_grown H5.out.2.2.2.2 h7.bel
  have xz := cell_block x0
  clear h7 hall hin7 hy0 hy2 hmem p0 p1 p2 t0 t1 t2 hfil
  go_wp2_with fail
  refine Calls.mono HW0.out ?_
  clear HW0
  rintro e w8 ⟨v8, Y8, rfl, hE8, hY8⟩
  rw [HR2.out.2.2] at hY8
  have hl8 : Y8.length = 1 := by simpa using congrArg List.length hY8
  obtain ⟨a8, k8, rfl⟩ := hE8.shape
  rw [hl8]
  have b8 := hE8.bel
  have HW2 : Hid _ := swishes y2 r2 sgR w8 (H7.out.1.below b8) HR2.out.1
  have HB8 : Hid (Below w7.heap.size w7 w8) := b8
  replace x0 := cell_grown x0 b8
  replace x1 := cell_grown x1 b8
  replace xz := cell_block x0
  replace hm2 := cell_grown hm2 b8
  replace hml := cell_block hm2
  clear hE8 hY8 hl8 b8 hm0
  go_wp2_with fail
  refine Calls.mono HW2.out ?_
  clear HW2
  rintro e w9 ⟨v9, Y9, rfl, hE9, hY9⟩
  rw [HR2.out.2.1] at hY9
  have hl9 : Y9.length = 1 := by simpa using congrArg List.length hY9
  obtain ⟨a9, k9, rfl⟩ := hE9.shape
  rw [hl9]
  have b9 := hE9.bel
  obtain ⟨W10, hW10⟩ : ∃ W10, W10 = w9.alloc (.cells #[.string ⟨#[103]⟩] 9) := ⟨_, rfl⟩
  have b10 : Below w9.heap.size w9 W10 := by rw [hW10]; exact below_one _ _
  have b7T : Below w5.heap.size w5 W10 := by
    have z1 := H7.out.1.bel
    have z2 := z1.trans (HB8.out.mono z1.size)
    have z3 := z2.trans (b9.mono z2.size)
    exact z3.trans (b10.mono z3.size)
  have hcT := H5.out.2.1.below b7T
  have HPL : Hid _ := plan_c ringA ringA C C g c d n g c d n b b (some ⟨w9.heap.size, 0, none⟩) 1 1 [sgR] W10 hcT hcT (one_str w9 sgR hW10) (by omega) (by simp; decide) (fun s hs k hk hkn => by
    rw [List.getD_eq_getElem?_getD, List.getElem?_eq_getElem (show k < C.length by rw [hcT.len]; exact hkn)]; simp)
  have HBT : Hid (Below w.heap.size w W10) := H5.out.2.2.1.trans (b7T.mono H5.out.2.2.1.size)
  replace x0 := cell_grown x0 b9
  replace x1 := cell_grown x1 b9
  replace xz := cell_block x0
  clear hE9 hY9 hl9 b9 b10 b7T hcT hm2 hml
  go_wp2_with fail
  rw [← hW10]
  clear hW10
  refine Calls.mono HPL.out ?_
  clear HPL
  rintro e w11 ⟨⟨v, F, rfl, hF, hrow⟩, b11⟩
  rw [catM_nil F _ (fun j hj => (hF j hj).same)] at hrow
  obtain ⟨av, cv, rfl⟩ := own_len3 hrow
  clear hrow hF
  go_wp2
  go_ret
  exact ⟨rfl, HBT.out.trans (b11.mono HBT.out.size)⟩
end Go.Proofs.YtmajlldfiiokoaaGreatDoor

/- wigwaglaw11.Made at the base's places: there is a ring. -/
namespace Go.Proofs.YtmajlldfiiokoaaGreatDoor
open Go.ChangeShapes Go.WideShapes Go.ChangeAt Go.RowKit Go.Deep
set_option linter.unusedVariables false

theorem rnew_base (a : Option Addr) (cap : Nat) (w : World) (h : IdIn w a 4 ids4) :
    Calls Tryz.prog 45 #[.slice a 4 cap] w fun e w' => ∃ x0 x1 x2 x3 : Value, e = .returned (.tuple #[.agg #[x0, x1, x2, x3], .int .i64 0]) ∧ Sl4 x0 x1 x2 x3 ∧ RfV w' ringA (.agg #[x0, x1, x2, x3]) ∧ Below w.heap.size w w' := by
  refine (rnew_four a cap ids4 w h).mono ?_
  rintro e w' ⟨h | h, hb⟩
  · obtain ⟨S, hp, hm, hl, _⟩ := h
    have e1 : S = ids4 := rise_same S ids4 hp (by simp [ids4]) hm
    rw [e1] at hl
    exact absurd hl (by decide)
  · obtain ⟨S, v', hp, hm, hl, he, hv⟩ := h
    have e1 : S = ids4 := rise_same S ids4 hp (by simp [ids4]) hm
    rw [e1] at hv
    obtain ⟨x0, x1, x2, x3, rfl, ua, uc, la, lc, ia, ic, pa, pc, rfl, rfl, rfl, rfl⟩ := hv.shape
    exact ⟨_, _, _, _, he, ⟨⟨_, _, _, rfl⟩, ⟨_, _, _, rfl⟩, ⟨_, _, _, rfl⟩, ⟨_, _, _, rfl⟩⟩, hv, hb⟩

set_option maxRecDepth 100000 in
set_option maxHeartbeats 8000000 in
theorem made_base (a0 : Option Addr) (w : World) (hi : IdIn w a0 4 ids4) :
    Calls Tryz.prog 8 #[.slice a0 4 4, .slice none 0 0, .int .i64 0] w fun e w' =>
      ∃ r gp gk x0 x1 x2 x3, e = .returned (.tuple #[.pointer (some ⟨r, 0, none⟩), .agg #[x0, x1, x2, x3], .bool true]) ∧ Sl4 x0 x1 x2 x3 ∧ Rn w w' r gp gk ringA ∧ RfV w' ringA (.agg #[x0, x1, x2, x3]) := by
  obtain ⟨i0, hif, hz0, hz1, hz2⟩ := info_parts' Tryz.infoU64
  obtain ⟨l, hl4⟩ : ∃ l, l = ids4 := ⟨_, rfl⟩
  rw [← hl4] at hi
  obtain ⟨n, hn4⟩ : ∃ n : Nat, n = 4 := ⟨_, rfl⟩
  have HL4 : Hid (l = ids4 ∧ n = 4) := ⟨hl4, hn4⟩
  have HI : Hid (IdIn w a0 4 l) := hi
  clear hi hl4 hn4
  go_enter Tryz.func8, Tryz.ntmps8
  obtain ⟨W1, hW1⟩ : ∃ W1, W1 = w.alloc (.cells #[.slice none 0 0, .slice none 0 0, .slice none 0 0, .slice none 0 0] 32) := ⟨_, rfl⟩
  have H1 : Hid (Below w.heap.size w W1 ∧ W1.heap[w.heap.size]? = some (.cells #[.slice none 0 0, .slice none 0 0, .slice none 0 0, .slice none 0 0] 32 (0, 0))) := by rw [hW1]; exact ⟨below_one _ _, heap_alloc_new _ _⟩
  go_upto_region 1 with fail
  rw [← hW1]
  clear hW1
  go_upto_if 21 with fail
  go_cut [0] (fun v wx => v = .slice a0 n 4 ∧ n ≤ 6 ∧ W1 = wx ∧ Hid (IdIn w a0 n l))
  case first =>
    go_wp2
    go_meet
    rw [HL4.out.2]
    exact ⟨rfl, by omega, rfl, HI.out⟩
  case rest =>
    obtain ⟨rfl, hn6, hwx, HL⟩ := hcut
    subst hwx
    clear HI
    go_wp2
    go_loopg [9, 27] n (fun kx v s wr => ∃ k : Nat, s = .int .i64 k ∧ k ≤ n ∧ kx = n - k ∧ Hid (Made W1 wr v (l.take k)))
    case atStart => exact ⟨0, rfl, Nat.zero_le _, by omega, Made.empty W1⟩
    case round =>
      obtain ⟨k, rfl, hk, rfl, HG⟩ := hrel
      have HLk : Hid ((l.take k).length = k) := by show (l.take k).length = k; have := HL.out.1; simp; omega
      obtain ⟨ua, uc, hu⟩ := HG.out.shape
      rw [HLk.out] at hu
      have BW : Hid (Below w.heap.size w wr) := H1.out.1.trans (HG.out.below.mono H1.out.1.size)
      by_cases hlt : k < n
      · have hkI : (0 : Int) ≤ (k : Int) ∧ (k : Int) < (n : Int) := by omega
        obtain ⟨b, o, hb, hbb, _, hc⟩ := (HL.out.below (Nat.le_refl _) BW.out).one (v := Value.int .u64) (fun _ => rfl) (i := k) hlt
        have HTk : Hid (l.take (k + 1) = l.take k ++ [l.getD k 0]) := by
          show _ = _
          have hkl : k < l.length := by have := HL.out.1; omega
          rw [List.take_add_one, List.getD_eq_getElem?_getD, List.getElem?_eq_getElem hkl]; rfl
        obtain ⟨y, hy⟩ : ∃ y, y = l.getD k 0 := ⟨_, rfl⟩
        rw [← hy] at hc HTk
        clear hy
        subst hb
        subst hu
        have HA : Hid ((wr.alloc (.cells #[.int .u64 y] 58)).ownsRow W1.heap.size 58 1 (.slice ua k uc) k ((l.take k).map (Value.int .u64))) := by
          have := HG.out.row.alloc (.cells #[.int .u64 y] 58)
          rw [HLk.out] at this
          exact this
        have HSz : Hid (W1.heap.size ≤ wr.heap.size) := HG.out.size
        go_wp2_with (at_builtin; refine wpList_own_append _ rfl _ _ 27 27 rfl W1.heap.size 58 i0 (.int .u64 0) 8 Tryz.underlying27 hif hz0 hz1 hz2 rfl _ _ _ rfl HA.out _ 1 [.int .u64 y] rfl (src_u64 wr y _) ?c3 ?c4 ?c5 ?_)
        case c3 => unfold maxLen; omega
        case c4 => omega
        case c5 => have := HSz.out; simp; omega
        intro v' w3 ha
        have G' : Hid (Made W1 w3 v' (l.take (k + 1))) := by rw [HTk.out]; rw [← List.map_take] at ha; exact HG.out.app (by rw [HLk.out]) ha
        clear ha HA
        go_wp2
        go_roundg (n - (k + 1))
        case measure => omega
        case rel => exact ⟨k + 1, by go_num, by omega, rfl, G'⟩
      · obtain rfl : k = n := by omega
        have hkn : ¬ (k : Int) < (k : Int) := by omega
        have HG2 : Hid (Made W1 wr (.slice ua k uc) l) := by
          subst hu
          have e : l.take k = l := List.take_of_length_le (by have := HL.out.1; omega)
          have := HG.out
          rw [e] at this
          exact this
        subst hu
        have hl1 := lt_of_block H1.out.2
        have H2 : Hid (IdIn wr a0 k l ∧ IdIn wr ua k l ∧ Below w.heap.size w wr ∧ wr.heap[w.heap.size]? = some (.cells #[.slice none 0 0, .slice none 0 0, .slice none 0 0, .slice none 0 0] 32 (0, 0))) := by
          have hL := HL.out.below (Nat.le_refl _) BW.out
          refine ⟨hL, made_ids HG2.out HL.out.1.symm (fun x hx => ?_) (by omega), BW.out, (HG2.out.below.block _ hl1).trans H1.out.2⟩
          by_cases k0 : 0 < k
          · exact inrow_ok hL k0 x hx
          · have : l = [] := List.eq_nil_of_length_eq_zero (by have := HL.out.1; omega)
            rw [this] at hx; cases hx
        obtain ⟨w2, hw2⟩ : ∃ w2, w2 = wr := ⟨_, rfl⟩
        rw [← hw2] at H2 ⊢
        clear hw2 HG HG2 BW HLk HL hl1 H1 hk
        obtain ⟨hle, hk4⟩ := HL4.out
        subst hk4
        subst hle
        have HI2 : Hid (IdIn w2 a0 4 ids4 ∧ IdIn w2 ua 4 ids4) := ⟨H2.out.1, H2.out.2.1⟩
        go_wp2_with fail
        refine (new_base a0 4 w2 HI2.out.1).mono ?_
        rintro e w3 ⟨r, gp, gkr, rfl, hr, l1, l2, l3, b3⟩
        have B3 : Hid (Below w2.heap.size w2 w3) := b3
        have hs2 := H2.out.2.2.1.size
        have HR3 : Hid (Rn w w3 r gp gkr ringA) := ⟨hr, ringA_inv, H2.out.2.2.1.trans (b3.mono hs2), by omega, by omega⟩
        clear hr l1 l2 l3 b3
        go_wp2_with fail
        refine (rnew_base ua uc w3 (HI2.out.2.below (Nat.le_refl _) B3.out)).mono ?_
        rintro e w4 ⟨x0, x1, x2, x3, rfl, hsl, hv, b4⟩
        obtain ⟨⟨p0, p1, p2, rfl⟩, ⟨p3, p4, p5, rfl⟩, ⟨p6, p7, p8, rfl⟩, ⟨p9, p10, p11, rfl⟩⟩ := hsl
        obtain ⟨W4, hW4⟩ : ∃ W4, W4 = w4.alloc (.cells #[.slice p0 p1 p2, .slice p3 p4 p5, .slice p6 p7 p8, .slice p9 p10 p11] 32) := ⟨_, rfl⟩
        have B34 : Below w3.heap.size w3 W4 := by rw [hW4]; exact b4.trans ((below_one _ _).mono b4.size)
        have B4 : Below w2.heap.size w2 W4 := B3.out.trans (B34.mono B3.out.size)
        have hbx : W4.heap[w4.heap.size]? = some (.cells #[.slice p0 p1 p2, .slice p3 p4 p5, .slice p6 p7 p8, .slice p9 p10 p11] 32 (0, 0)) := by rw [hW4]; exact heap_alloc_new w4 _
        have hres : W4.heap[w.heap.size]? = some (.cells #[.slice none 0 0, .slice none 0 0, .slice none 0 0, .slice none 0 0] 32 (0, 0)) := (B4.block _ (lt_of_block H2.out.2.2.2)).trans H2.out.2.2.2
        have hv4 : RfV W4 ringA _ := hv.below (by rw [hW4]; exact below_one w4 (.cells #[.slice p0 p1 p2, .slice p3 p4 p5, .slice p6 p7 p8, .slice p9 p10 p11] 32))
        have hr4 := HR3.out.below B34
        obtain ⟨c0, c1, c2, c3, cl⟩ := c4_block hbx
        obtain ⟨s0, s1, s2, s3, sl⟩ := c4_block hres
        have sf := fz_block hres
        have HA : Hid (Rn w (set4 W4 w.heap.size (.slice p0 p1 p2) (.slice p3 p4 p5) (.slice p6 p7 p8) (.slice p9 p10 p11)) r gp gkr ringA ∧ RfV (set4 W4 w.heap.size (.slice p0 p1 p2) (.slice p3 p4 p5) (.slice p6 p7 p8) (.slice p9 p10 p11)) ringA (.agg #[.slice p0 p1 p2, .slice p3 p4 p5, .slice p6 p7 p8, .slice p9 p10 p11])) :=
          ⟨hr4.set4 hres ⟨⟨_, _, _, rfl⟩, ⟨_, _, _, rfl⟩, ⟨_, _, _, rfl⟩, ⟨_, _, _, rfl⟩⟩ (Nat.le_refl _) _ _ _ _, hv4.off (by rw [set4_size]; exact Nat.le_refl _) (off_set4 hres ⟨_, _, _, rfl⟩ ⟨_, _, _, rfl⟩ ⟨_, _, _, rfl⟩ ⟨_, _, _, rfl⟩ _ _ _ _)⟩
        have HSL : Hid (Sl4 (.slice p0 p1 p2) (.slice p3 p4 p5) (.slice p6 p7 p8) (.slice p9 p10 p11)) := ⟨⟨_, _, _, rfl⟩, ⟨_, _, _, rfl⟩, ⟨_, _, _, rfl⟩, ⟨_, _, _, rfl⟩⟩
        clear hv4 hr4 hv b4
        go_upto_region 11 with fail
        rw [← hW4]
        generalize w4.heap.size = q at c0 c1 c2 c3 cl ⊢
        clear hW4 hbx hres B4 B34 B3 H2 HR3 HI2
        go_wp2
        go_loopg [16] 0 (fun kx s wr => s = .int .i64 0 ∧ wr = W4)
        case atStart => exact ⟨rfl, rfl⟩
        case round =>
          obtain ⟨rfl, hwr⟩ := hrel
          subst hwr
          go_wp2_with (go_region)
          all_goals refine bodyPost_ret (v := .tuple #[.pointer (some ⟨r, 0, none⟩), .agg #[.slice p0 p1 p2, .slice p3 p4 p5, .slice p6 p7 p8, .slice p9 p10 p11], .bool true]) (by simp [results, Tryz.results8, go_sem, s0, s1, s2, s3]) rfl ⟨r, gp, gkr, _, _, _, _, rfl, HSL.out, ?_⟩
          all_goals first
            | exact HA.out
            | exact ⟨HA.out.1.below ⟨rfl, rfl, rfl, Nat.le_refl _, fun _ _ => rfl⟩, HA.out.2.below ⟨rfl, rfl, rfl, Nat.le_refl _, fun _ _ => rfl⟩⟩
end Go.Proofs.YtmajlldfiiokoaaGreatDoor
