/- dyad.Chain. -/
import Derived.Test.YtkkbhkpeglcodaaGreatDoorDyGood
import Derived.Test.YtkkbhkpeglcodaaGreatDoorOwnSrc2
import Derived.Deep.AppendSrc
import Derived.Deep.LoopGhost
import Derived.Deep.RegionHeld3
import Derived.Deep.AppendLies
import Derived.Deep.RegionLaw
namespace Go.Proofs.YtkkbhkpeglcodaaGreatDoor
open Go.ChangeShapes Go.WideShapes Go.ChangeAt Go.RowKit
set_option linter.unusedVariables false

theorem Tryz.infoIv : (Tryz.prog.info? 23).map (fun i => (i.zero, i.size, i.bytes)) = some (some (.agg #[.int .i64 0, .int .i64 0]), 2, 16) := by kernel_rfl
theorem dinfo {P : Program} {t : TypeId} {z : Option Value} {s b : Nat} (h : (P.info? t).map (fun i => (i.zero, i.size, i.bytes)) = some (z, s, b)) : ∃ i, P.info? t = some i ∧ i.zero = z ∧ i.size = s ∧ i.bytes = b := by
  cases hh : P.info? t with
  | none => rw [hh] at h; simp at h
  | some i => rw [hh] at h; simp at h; exact ⟨i, rfl, h.1, h.2.1, h.2.2⟩
theorem src_Iv (w : World) (q : Iv) (x : Nat) (hx : x = w.heap.size) :
    Src Tryz.prog 2 101 (.slice (some ⟨x, 0, none⟩) 1 1) 1 q.cells (w.alloc (.cells #[.int .i64 q.lev, .int .i64 q.idx] 23)) :=
  Src.ofSlice _ Tryz.underlying101 _ 1 1 _ rfl (fun j u hu => by
    subst hx
    have := World.news_of_block (cs := #[.int .i64 q.lev, .int .i64 q.idx]) (t := 23) (fr := (0, 0)) (heap_alloc_new w _) j u (by simpa [Iv.cells] using hu)
    exact this) (by simp [Iv.cells, Value.oneCell'])

theorem own_carryI {B : Nat} {w w' : World} {e : TypeId} {k n : Nat} {v : Value} {xs : List Value} (h : w.ownsRow B e k v n xs) (hb : Below w.heap.size w w') : w'.ownsRow B e k v n xs := by
  refine ⟨h.1, ?_⟩
  rcases h.2 with h1 | ⟨g', cap, cur, hv, hbg, hg, hr⟩
  · exact .inl h1
  · exact .inr ⟨g', cap, cur, hv, hbg, (hb.block g' (lt_of_block hg)).trans hg, hr⟩
theorem grown_belowI {B : Nat} {w0 w w' : World} {e : TypeId} {k n : Nat} {v : Value} {xs : List Value} (hb : Below B w0 w) (hle : B ≤ w.heap.size) (h : w.ownsRow B e k v n xs) (hg : w.grownBy w' v.ownBlock) : Below B w0 w' :=
  hb.trans ⟨hg.os, hg.tape, hg.output, hg.size, fun j hj => hg.block j (by omega) (fun e => by have := (h.lt j e.symm).1; omega)⟩
/-- A row of the call's own, and nothing of before has turned. -/
structure IvRow (T : TypeId) (w0 w : World) (v : Value) (xs : List Iv) : Prop where
  row : w.ownsRow w0.heap.size T 2 v xs.length (xs.flatMap Iv.cells)
  bel : Below w0.heap.size w0 w
theorem IvRow.le {T : TypeId} {w0 w : World} {v : Value} {xs : List Iv} (h : IvRow T w0 w v xs) : w0.heap.size ≤ w.heap.size := h.bel.size
theorem IvRow.carry {T : TypeId} {w0 w w' : World} {v : Value} {xs : List Iv} (h : IvRow T w0 w v xs) (hb : Below w.heap.size w w') : IvRow T w0 w' v xs := ⟨own_carryI h.row hb, h.bel.trans (hb.mono h.le)⟩
theorem IvRow.step {T : TypeId} {w0 w W1 W2 : World} {v v' : Value} {xs : List Iv} {x : Iv} (h : IvRow T w0 w v xs) (b1 : Below w.heap.size w W1) (ha : Appended2 w0.heap.size T W1 W2 v v' (xs.length + 1) (xs.flatMap Iv.cells ++ x.cells)) : IvRow T w0 W2 v' (xs ++ [x]) := by
  have h1 := h.carry b1
  refine ⟨?_, grown_belowI h1.bel h1.le h1.row ha.grown⟩
  have := ha.row
  simpa using this
theorem IvRow.nil (T : TypeId) (w0 w : World) (h : Below w0.heap.size w0 w) : IvRow T w0 w (.slice none 0 0) [] := ⟨World.ownsRow_nil _ _ _ _, h⟩

theorem chain_snoc (c n k : Nat) (hk : k ≤ n) : (chain c n).take (k + 1) = (chain c n).take k ++ [⟨(k : Nat), ((c / 2 ^ (n - k) : Nat) : Int)⟩] := by
  rw [List.take_succ_eq_append_getElem (by rw [chain_len]; omega)]
  simp [chain]

set_option maxHeartbeats 1000000 in
theorem isCell_any (c L : Int) (w : World) :
    Calls Tryz.prog 69 #[.int .i64 c, .int .i64 L] w fun e w' => e = .returned (.bool ((Iv.mk L c).goodB L)) ∧ Below w.heap.size w w' := by
  go_enter Tryz.func69, Tryz.ntmps69
  go_wp2_with fail
  refine (good_any ⟨L, c⟩ L _).mono ?_
  rintro e w' ⟨rfl, hb⟩
  go_wp2
  go_ret
  exact ⟨rfl, hb⟩

set_option maxHeartbeats 1000000 in
theorem chain_no (c L : Int) (w : World) (h : ¬ (Iv.mk L c).good L) :
    Calls Tryz.prog 50 #[.int .i64 c, .int .i64 L] w fun e w' => e = .returned (.slice none 0 0) ∧ Below w.heap.size w w' := by
  have hg : (Iv.mk L c).goodB L = false := decide_eq_false h
  have hc := isCell_any c L w
  rw [hg] at hc
  have HC : Hid _ := hc
  clear hg hc h
  go_enter Tryz.func50, Tryz.ntmps50
  go_wp2_with fail
  refine Calls.mono HC.out ?_
  rintro e w' ⟨rfl, hb⟩
  go_wp2
  go_ret
  exact ⟨rfl, hb⟩

set_option maxRecDepth 100000 in
set_option maxHeartbeats 1000000 in
theorem chain_yes (c n : Nat) (w : World) (hn : n ≤ 8) (hcn : c < 2 ^ n) :
    Calls Tryz.prog 50 #[.int .i64 c, .int .i64 n] w fun e w' => ∃ v, e = .returned v ∧ IvRow 23 w w' v (chain c n) := by
  obtain ⟨i0, hi, hz0, hz1, hz2⟩ := dinfo Tryz.infoIv
  have hg : (Iv.mk n c).goodB n = true := decide_eq_true (Iv.good_of (Nat.le_refl _) hn hcn)
  have hc := isCell_any c n w
  rw [hg] at hc
  have HC : Hid _ := hc
  have HCN : Hid (c < 2 ^ n) := hcn
  clear hg hc hcn
  go_enter Tryz.func50, Tryz.ntmps50
  go_wp2_with fail
  refine Calls.mono HC.out ?_
  rintro e w1 ⟨rfl, hb⟩
  have HB : Hid (Below w.heap.size w w1) := hb
  clear hb
  go_wp2
  go_loopg [5, 13] (n + 1) (fun kx s5 s13 wr => ∃ k : Nat, s13 = .int .i64 k ∧ k ≤ n + 1 ∧ kx = n + 1 - k ∧ (∃ a cp, s5 = .slice a k cp) ∧ Hid (IvRow 23 w wr s5 ((chain c n).take k)))
  case atStart => exact ⟨0, rfl, Nat.zero_le _, rfl, ⟨_, _, rfl⟩, (by simpa using IvRow.nil _ w w1 HB.out : IvRow 23 w w1 (.slice none 0 0) ((chain c n).take 0))⟩
  case round =>
    obtain ⟨k, rfl, hk, rfl, ⟨a, cp, rfl⟩, R⟩ := hrel
    by_cases hlt : k < n + 1
    · have hsub : ((n : Int) - (k : Int)).toNat = n - k := by omega
      have hdv : (c : Int) / 2 ^ (n - k) = ((c / 2 ^ (n - k) : Nat) : Int) := by simp
      have HL : Hid (((chain c n).take k).length = k) := (by rw [List.length_take, chain_len]; omega : ((chain c n).take k).length = k)
      have HSN := chain_snoc c n k (by omega)
      generalize hq : c / 2 ^ (n - k) = q at hdv HSN
      have HSN : Hid _ := HSN
      clear hq
      have hle := R.out.le
      have HR : Hid (wr.ownsRow w.heap.size 23 2 (.slice a k cp) k (((chain c n).take k).flatMap Iv.cells)) := by
        have := R.out.row; rw [HL.out] at this; exact this
      go_wp2_with (at_builtin; refine wpList_own_append2 _ rfl _ _ 101 101 rfl w.heap.size 23 i0 _ 16 Tryz.underlying101 hi hz0 hz1 hz2 rfl _ k (((chain c n).take k).flatMap Iv.cells) rfl (own_carryI HR.out (dbel1 _ _)) _ 1 (Iv.mk k q).cells rfl (src_Iv wr ⟨k, q⟩ _ rfl) ?c3 ?c4 ?c5 ?_)
      case c3 => unfold maxLen; omega
      case c4 => omega
      case c5 => simp; omega
      intro v' W2 ha
      obtain ⟨a', cp', hv⟩ := ha.shape
      subst hv
      have HST : Hid (IvRow 23 w W2 (.slice a' (k + 1) cp') ((chain c n).take (k + 1))) := by
        show IvRow _ _ _ _ _
        rw [HSN.out]
        exact R.out.step (dbel1 _ _) (by rw [HL.out]; exact ha)
      clear ha
      go_wp2
      go_roundg (n + 1 - (k + 1))
      case measure => omega
      case rel => exact ⟨k + 1, by go_num, by omega, rfl, ⟨_, _, rfl⟩, HST⟩
    · obtain rfl : k = n + 1 := by omega
      have HE : Hid ((chain c n).take (n + 1) = chain c n) := (List.take_of_length_le (by rw [chain_len]; omega) : (chain c n).take (n + 1) = chain c n)
      go_wp2
      go_ret
      exact ⟨_, rfl, by rw [← HE.out]; exact R.out⟩
end Go.Proofs.YtkkbhkpeglcodaaGreatDoor
