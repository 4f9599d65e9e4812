/- A slice of elements of four cells that the call itself made, appended to out of whatever source (a slice, a string): where what comes of it lies: in the row that was there, or in a new block. No program in sight. -/
import Derived.Test.YtkkbhkpeglcodaaGreatDoorOwnSrc
import Derived.Deep.Upon
import Derived.Laws.AppendOwn
import Derived.WalkKit
import Derived.Test.YtkkbhkpeglcodaaGreatDoorRows
import Derived.Test.YtkkbhkpeglcodaaGreatDoorAid
import Derived.ProofKit
import Derived.OpenShut
import Derived.WalkLawsBesides
import Derived.Test.YtkkbhkpeglcodaaGreatDoorInRow
import Derived.Test.YtkkbhkpeglcodaaGreatDoorValAwake
import Derived.Test.YtkkbhkpeglcodaaGreatDoorOwnSrc2
import Derived.Deep.AppendSrc
import Derived.Deep.RegionHeld3
import Derived.Deep.RegionLaw
import Derived.Deep.AppendLies
import Derived.Test.YtkkbhkpeglcodaaGreatDoorGrDoor
import Derived.Test.YtkkbhkpeglcodaaGreatDoorGrName
import Derived.Test.YtkkbhkpeglcodaaGreatDoorValMath
import Derived.Test.YtkkbhkpeglcodaaGreatDoorShelfB
import Derived.Lib.AtoiAll
import Derived.Lib.AtoiErrMem
import Derived.Test.YtkkbhkpeglcodaaGreatDoorRefDig
import Derived.Test.YtkkbhkpeglcodaaGreatDoorRefVal
import Derived.Test.YtkkbhkpeglcodaaGreatDoorDyRef
import Derived.Test.YtkkbhkpeglcodaaGreatDoorDyCov3
import Derived.Test.YtkkbhkpeglcodaaGreatDoorGrRefCh
import Derived.LaidEql
import Derived.Stop.Asserts
import Derived.RowKitTokens
import Derived.OneCell
import Derived.Outline
import Derived.Test.YtkkbhkpeglcodaaGreatDoorGrBad
import Derived.Test.YtkkbhkpeglcodaaGreatDoorGrAwake
set_option linter.unnecessarySimpa false
namespace Go.Proofs.YtkkbhkpeglcodaaGreatDoor
open Go.RowKit

section
variable {P : Program} (w : World)

/-- What an append to an own row leaves. -/
structure Appended4 (base : Nat) (e : TypeId) (w w' : World) (v v' : Value) (n : Nat) (xs : List Value) : Prop where
  row : w'.ownsRow base e 4 v' n xs
  grown : w.grownBy w' v.ownBlock
  new : ∀ k, v'.ownBlock = some k → v.ownBlock = some k ∨ w.heap.size ≤ k
  shape : ∃ a c, v' = .slice a n c

theorem own_append4 (base : Nat) (t tx ty e : TypeId) (i : TypeInfo) (z : Value) (bytes : Nat) (ht : P.underlying t = some (.slice e)) (hi : P.info? e = some i) (hz : i.zero = some z)
    (hsize : i.size = 4) (hby : i.bytes = bytes) (hzs : z.cells.size = 4)
    (v : Value) (n : Nat) (xs : List Value) (hown : w.ownsRow base e 4 v n xs) (x : Value) (m : Nat) (news : List Value) (hs : Src P 4 tx x m news w)
    (h63 : n + m ≤ maxLen) (hbytes : (n + m) * bytes ≤ 140737488355328) (hbase : base ≤ w.heap.size) :
    ∃ v' w', (Builtin.append_ #[t, tx] ty #[v, x]).run P w = .ok v' w' ∧ Appended4 base e w w' v v' (n + m) (xs ++ news) := by
  rw [← hsize] at hs
  subst hby
  have hsmall : n + m ≤ 9223372036854775807 := by simp only [maxLen] at h63; omega
  have hnl : news.length = m * 4 := by have := hs.newsLen; rw [hsize] at this; exact this
  have hxl : xs.length = n * 4 := hown.1
  have hlen : (xs ++ news).length = (n + m) * 4 := by rw [List.length_append, hxl, hnl]; omega
  have grown : ∀ (old : Nat), old < n + m →
      (w.drew.alloc (.cells ((xs ++ news).toArray ++ Builtin.zeroCells z.cells (grownCap w (n + m) old e - (n + m))) e)).ownsRow base e 4
        (.slice (some ⟨w.heap.size, 0, none⟩) (n + m) (grownCap w (n + m) old e)) (n + m) (xs ++ news) ∧
      ∀ row, w.grownBy (w.drew.alloc (.cells ((xs ++ news).toArray ++ Builtin.zeroCells z.cells (grownCap w (n + m) old e - (n + m))) e)) row := by
    intro old ho
    have hge := grownCap_ge w (n + m) old e
    have hcm : grownCap w (n + m) old e ≤ maxLen := grownCap_le_maxLen w (n + m) old e h63
    refine ⟨⟨hlen, .inr ⟨w.heap.size, _, _, rfl, hbase, heap_alloc_new w.drew _, hge, hcm, ?_, ?_⟩⟩, fun row => ⟨rfl, rfl, rfl, by simp, fun k hk _ => Below.heap_alloc w.drew _ k hk⟩⟩
    · simp only [Array.size_append, List.size_toArray, size_zeroCells, hzs, hlen]; omega
    · rw [Array.toList_append, List.toList_toArray, ← hlen]; exact List.take_left
  rcases hown.2 with ⟨rfl, rfl⟩ | ⟨g, cap, cur, rfl, hbg, hg, hnc, hcm, hcs, htake⟩
  · have hx : xs = [] := List.eq_nil_of_length_eq_zero (by omega)
    subst hx
    by_cases hm : m = 0
    · subst hm
      have hn : news = [] := List.eq_nil_of_length_eq_zero (by omega)
      subst hn
      exact ⟨.slice none 0 0, w, run_append_nothing w t tx ty e i ht hi none 0 0 (Nat.le_refl _) x hs, World.ownsRow_nil w base e 4, ⟨rfl, rfl, rfl, Nat.le_refl _, fun _ _ _ => rfl⟩, fun k hk => .inl hk, ⟨none, 0, rfl⟩⟩
    · have hr := run_append_grow_src (P := P) w t tx ty e i z ht hi hz none 0 0 [] (run_firstCells_none _ _ _ _ _) x m news hs (by omega) (by omega) (growslice_fits (by omega) hbytes)
      have hgr := grown 0 (by omega)
      exact ⟨_, _, hr, hgr.1, hgr.2 _, fun k hk => .inr (by simp [Value.ownBlock] at hk; omega), ⟨_, _, rfl⟩⟩
  · by_cases hroom : n + m ≤ cap
    · have hfit : n * i.size + news.length ≤ cur.size := by rw [hnl, hcs, hsize]; omega
      have hr := room_src (P := P) w t tx ty e i ht hi g n cap cur hg x m news hs hroom hfit
      refine ⟨_, _, hr, ⟨hlen, .inr ⟨g, cap, _, rfl, hbg, setRow_heap w g cur _ e _ hg, hroom, hcm, ?_, ?_⟩⟩, ⟨rfl, rfl, rfl, by simp, fun k _ hk => setRow_other w g k _ (fun e => hk (by simp [Value.ownBlock, e]))⟩, fun k hk => .inl hk, ⟨_, _, rfl⟩⟩
      · simp only [List.size_toArray, List.length_append, List.length_take, List.length_drop, Array.length_toList]
        omega
      · rw [hsize, htake, ← hlen]
        exact List.take_left
    · have holds : ∀ j u, xs[j]? = some u → w.cell? ((⟨g, 0, none⟩ : Addr).add j) = some u := hown.cells (g := g) rfl
      have hf := run_firstCells_some (P := P) w.drew i.size n ⟨g, 0, none⟩ n cap xs (by rw [hsize]; omega) (by simpa using holds)
      have hr := run_append_grow_src (P := P) w t tx ty e i z ht hi hz (some ⟨g, 0, none⟩) n cap xs hf x m news hs (by omega) (by omega) (growslice_fits (by omega) hbytes)
      have hgr := grown cap (by omega)
      exact ⟨_, _, hr, hgr.1, hgr.2 _, fun k hk => .inr (by simp [Value.ownBlock] at hk; omega), ⟨_, _, rfl⟩⟩

theorem wpList_own_append4 {ops : Array Oper} {rest : List Oper} {o : Oper} {a : Act} {Q : Exit → Act → World → Prop} (hgd : o.guard = none) (s x : Operand) (t tx : TypeId)
    (ho : o.op = .call { callee := .builtin .append, args := #[s, x], argTypes := #[t, tx] })
    (base : Nat) (e : TypeId) (i : TypeInfo) (z : Value) (bytes : Nat) (ht : P.underlying t = some (.slice e)) (hi : P.info? e = some i) (hz : i.zero = some z)
    (hsize : i.size = 4) (hby : i.bytes = bytes) (hzs : z.cells.size = 4)
    (v : Value) (n : Nat) (xs : List Value) (hv : a.eval s = v) (hown : w.ownsRow base e 4 v n xs) (xv : Value) (m : Nat) (news : List Value) (hx : a.eval x = xv) (hs : Src P 4 tx xv m news w)
    (h63 : n + m ≤ maxLen) (hbytes : (n + m) * bytes ≤ 140737488355328) (hbase : base ≤ w.heap.size)
    (hK : ∀ v' w', Appended4 base e w w' v v' (n + m) (xs ++ news) → wpList P ops Q rest (a.put o.dst v') w') : wpList P ops Q (o :: rest) a w := by
  refine wpList_plain hgd fun K hK' => ?_
  obtain ⟨v', w', hrun, r'⟩ := own_append4 (P := P) w base t tx o.type e i z bytes ht hi hz hsize hby hzs v n xs hown xv m news hs h63 hbytes hbase
  unfold Oper.wp
  simp [execOp, ho, resolve, invoke, builtin, hv, hx, hrun, Result.andThen]
  exact hK' _ _ (hK v' w' r')

end
end Go.Proofs.YtkkbhkpeglcodaaGreatDoor

/- A slice of elements of five cells that the call itself made, appended to out of whatever source (a slice, a string): where what comes of it lies: in the row that was there, or in a new block. No program in sight. -/
namespace Go.Proofs.YtkkbhkpeglcodaaGreatDoor
open Go.RowKit

section
variable {P : Program} (w : World)

/-- What an append to an own row leaves. -/
structure Appended5 (base : Nat) (e : TypeId) (w w' : World) (v v' : Value) (n : Nat) (xs : List Value) : Prop where
  row : w'.ownsRow base e 5 v' n xs
  grown : w.grownBy w' v.ownBlock
  new : ∀ k, v'.ownBlock = some k → v.ownBlock = some k ∨ w.heap.size ≤ k
  shape : ∃ a c, v' = .slice a n c

theorem own_append5 (base : Nat) (t tx ty e : TypeId) (i : TypeInfo) (z : Value) (bytes : Nat) (ht : P.underlying t = some (.slice e)) (hi : P.info? e = some i) (hz : i.zero = some z)
    (hsize : i.size = 5) (hby : i.bytes = bytes) (hzs : z.cells.size = 5)
    (v : Value) (n : Nat) (xs : List Value) (hown : w.ownsRow base e 5 v n xs) (x : Value) (m : Nat) (news : List Value) (hs : Src P 5 tx x m news w)
    (h63 : n + m ≤ maxLen) (hbytes : (n + m) * bytes ≤ 140737488355328) (hbase : base ≤ w.heap.size) :
    ∃ v' w', (Builtin.append_ #[t, tx] ty #[v, x]).run P w = .ok v' w' ∧ Appended5 base e w w' v v' (n + m) (xs ++ news) := by
  rw [← hsize] at hs
  subst hby
  have hsmall : n + m ≤ 9223372036854775807 := by simp only [maxLen] at h63; omega
  have hnl : news.length = m * 5 := by have := hs.newsLen; rw [hsize] at this; exact this
  have hxl : xs.length = n * 5 := hown.1
  have hlen : (xs ++ news).length = (n + m) * 5 := by rw [List.length_append, hxl, hnl]; omega
  have grown : ∀ (old : Nat), old < n + m →
      (w.drew.alloc (.cells ((xs ++ news).toArray ++ Builtin.zeroCells z.cells (grownCap w (n + m) old e - (n + m))) e)).ownsRow base e 5
        (.slice (some ⟨w.heap.size, 0, none⟩) (n + m) (grownCap w (n + m) old e)) (n + m) (xs ++ news) ∧
      ∀ row, w.grownBy (w.drew.alloc (.cells ((xs ++ news).toArray ++ Builtin.zeroCells z.cells (grownCap w (n + m) old e - (n + m))) e)) row := by
    intro old ho
    have hge := grownCap_ge w (n + m) old e
    have hcm : grownCap w (n + m) old e ≤ maxLen := grownCap_le_maxLen w (n + m) old e h63
    refine ⟨⟨hlen, .inr ⟨w.heap.size, _, _, rfl, hbase, heap_alloc_new w.drew _, hge, hcm, ?_, ?_⟩⟩, fun row => ⟨rfl, rfl, rfl, by simp, fun k hk _ => Below.heap_alloc w.drew _ k hk⟩⟩
    · simp only [Array.size_append, List.size_toArray, size_zeroCells, hzs, hlen]; omega
    · rw [Array.toList_append, List.toList_toArray, ← hlen]; exact List.take_left
  rcases hown.2 with ⟨rfl, rfl⟩ | ⟨g, cap, cur, rfl, hbg, hg, hnc, hcm, hcs, htake⟩
  · have hx : xs = [] := List.eq_nil_of_length_eq_zero (by omega)
    subst hx
    by_cases hm : m = 0
    · subst hm
      have hn : news = [] := List.eq_nil_of_length_eq_zero (by omega)
      subst hn
      exact ⟨.slice none 0 0, w, run_append_nothing w t tx ty e i ht hi none 0 0 (Nat.le_refl _) x hs, World.ownsRow_nil w base e 5, ⟨rfl, rfl, rfl, Nat.le_refl _, fun _ _ _ => rfl⟩, fun k hk => .inl hk, ⟨none, 0, rfl⟩⟩
    · have hr := run_append_grow_src (P := P) w t tx ty e i z ht hi hz none 0 0 [] (run_firstCells_none _ _ _ _ _) x m news hs (by omega) (by omega) (growslice_fits (by omega) hbytes)
      have hgr := grown 0 (by omega)
      exact ⟨_, _, hr, hgr.1, hgr.2 _, fun k hk => .inr (by simp [Value.ownBlock] at hk; omega), ⟨_, _, rfl⟩⟩
  · by_cases hroom : n + m ≤ cap
    · have hfit : n * i.size + news.length ≤ cur.size := by rw [hnl, hcs, hsize]; omega
      have hr := room_src (P := P) w t tx ty e i ht hi g n cap cur hg x m news hs hroom hfit
      refine ⟨_, _, hr, ⟨hlen, .inr ⟨g, cap, _, rfl, hbg, setRow_heap w g cur _ e _ hg, hroom, hcm, ?_, ?_⟩⟩, ⟨rfl, rfl, rfl, by simp, fun k _ hk => setRow_other w g k _ (fun e => hk (by simp [Value.ownBlock, e]))⟩, fun k hk => .inl hk, ⟨_, _, rfl⟩⟩
      · simp only [List.size_toArray, List.length_append, List.length_take, List.length_drop, Array.length_toList]
        omega
      · rw [hsize, htake, ← hlen]
        exact List.take_left
    · have holds : ∀ j u, xs[j]? = some u → w.cell? ((⟨g, 0, none⟩ : Addr).add j) = some u := hown.cells (g := g) rfl
      have hf := run_firstCells_some (P := P) w.drew i.size n ⟨g, 0, none⟩ n cap xs (by rw [hsize]; omega) (by simpa using holds)
      have hr := run_append_grow_src (P := P) w t tx ty e i z ht hi hz (some ⟨g, 0, none⟩) n cap xs hf x m news hs (by omega) (by omega) (growslice_fits (by omega) hbytes)
      have hgr := grown cap (by omega)
      exact ⟨_, _, hr, hgr.1, hgr.2 _, fun k hk => .inr (by simp [Value.ownBlock] at hk; omega), ⟨_, _, rfl⟩⟩

theorem wpList_own_append5 {ops : Array Oper} {rest : List Oper} {o : Oper} {a : Act} {Q : Exit → Act → World → Prop} (hgd : o.guard = none) (s x : Operand) (t tx : TypeId)
    (ho : o.op = .call { callee := .builtin .append, args := #[s, x], argTypes := #[t, tx] })
    (base : Nat) (e : TypeId) (i : TypeInfo) (z : Value) (bytes : Nat) (ht : P.underlying t = some (.slice e)) (hi : P.info? e = some i) (hz : i.zero = some z)
    (hsize : i.size = 5) (hby : i.bytes = bytes) (hzs : z.cells.size = 5)
    (v : Value) (n : Nat) (xs : List Value) (hv : a.eval s = v) (hown : w.ownsRow base e 5 v n xs) (xv : Value) (m : Nat) (news : List Value) (hx : a.eval x = xv) (hs : Src P 5 tx xv m news w)
    (h63 : n + m ≤ maxLen) (hbytes : (n + m) * bytes ≤ 140737488355328) (hbase : base ≤ w.heap.size)
    (hK : ∀ v' w', Appended5 base e w w' v v' (n + m) (xs ++ news) → wpList P ops Q rest (a.put o.dst v') w') : wpList P ops Q (o :: rest) a w := by
  refine wpList_plain hgd fun K hK' => ?_
  obtain ⟨v', w', hrun, r'⟩ := own_append5 (P := P) w base t tx o.type e i z bytes ht hi hz hsize hby hzs v n xs hown xv m news hs h63 hbytes hbase
  unfold Oper.wp
  simp [execOp, ho, resolve, invoke, builtin, hv, hx, hrun, Result.andThen]
  exact hK' _ _ (hK v' w' r')

end
end Go.Proofs.YtkkbhkpeglcodaaGreatDoor

/- What wigwaglaw01.Cut answers: at most n bytes. -/
namespace Go.Proofs.YtkkbhkpeglcodaaGreatDoor
open Go.ChangeShapes Go.WideShapes Go.ChangeAt Go.RowKit
set_option linter.unusedVariables false

theorem cut_any (s : ByteArray) (n : Nat) (w : World) (hs : s.size ≤ maxLen) :
    Calls Tryz.prog 5 #[.string s, .int .i64 n] w fun e w' => e = .returned (.string (cut s n)) ∧ w' = w := by
  unfold maxLen at hs
  by_cases h : n < s.size
  · have H : Hid (cut s n = s.extract 0 n) := (if_pos h : cut s n = s.extract 0 n)
    go_enter Tryz.func5, Tryz.ntmps5
    go_wp2
    go_ret
    exact ⟨by rw [H.out]; rfl, rfl⟩
  · have H : Hid (cut s n = s) := (if_neg h : cut s n = s)
    go_enter Tryz.func5, Tryz.ntmps5
    go_wp2
    go_ret
    exact ⟨by rw [H.out]; rfl, rfl⟩
end Go.Proofs.YtkkbhkpeglcodaaGreatDoor

/- Schemas, events, filters that came in; rows of the call's own as schemas, events, filters. -/
namespace Go.Proofs.YtkkbhkpeglcodaaGreatDoor
open Go.ChangeShapes Go.WideShapes Go.ChangeAt Go.RowKit Go.Deep
set_option linter.unusedVariables false

def At.ok (t : At) : Prop := t.name.size ≤ 9223372036854775807 ∧ i64 t.kind ∧ i64 t.mn ∧ i64 t.mx
def Vl.ok (t : Vl) : Prop := i64 t.num ∧ t.str.size ≤ 9223372036854775807
def Pd.ok (t : Pd) : Prop := t.name.size ≤ 9223372036854775807 ∧ i64 t.op ∧ i64 t.lo ∧ i64 t.hi ∧ t.str.size ≤ 9223372036854775807
theorem cellsVl : Tryz.prog.cellsOf 83 = 2 := by kernel_rfl
theorem cellsPd : Tryz.prog.cellsOf 81 = 5 := by kernel_rfl
theorem cellsEv : Tryz.prog.cellsOf 48 = 2 := by kernel_rfl
theorem cellsVs : Tryz.prog.cellsOf 46 = 1 := by kernel_rfl
theorem cellsAt : Tryz.prog.cellsOf 79 = 4 := by kernel_rfl

section
variable {H : Type} {enc' : TypeId × Value → H} {W : World}
set_option maxRecDepth 100000 in
theorem at_of (n : Nat) (cs : List Value) (x : DataW H × List MemPlace) (h : DataW.trod enc' Tryz.prog W 0 (fun _ => true) true n 79 cs = some x) : ∃ t : At, cs = t.cells ∧ t.ok := by
  obtain ⟨xs, m, _, _, hl, hlen, hf⟩ := DataW.trod_struct Tryz.underlying79 h
  rw [cellsAt] at hl
  match cs, hl with
  | [c0, c1, c2, c3], _ =>
    match xs, hlen with
    | [y0, y1, y2, y3], _ =>
      have f0 := hf 0 _ rfl
      have f1 := hf 1 _ rfl
      have f2 := hf 2 _ rfl
      have f3 := hf 3 _ rfl
      simp [cellsI1, cellsS1] at f0 f1 f2 f3
      obtain ⟨s, e0, _, ws⟩ := DataW.trod_string Tryz.underlying9 f0
      obtain ⟨k, e1, _, wk⟩ := DataW.trod_int Tryz.underlying3 f1
      obtain ⟨n, e2, _, wn⟩ := DataW.trod_int Tryz.underlying3 f2
      obtain ⟨u, e3, _, wu⟩ := DataW.trod_int Tryz.underlying3 f3
      simp at e0 e1 e2 e3
      subst e0 e1 e2 e3
      exact ⟨⟨s, k, n, u⟩, rfl, ws, bounds_i64 wk, bounds_i64 wn, bounds_i64 wu⟩
set_option maxRecDepth 100000 in
theorem vl_of (n : Nat) (cs : List Value) (x : DataW H × List MemPlace) (h : DataW.trod enc' Tryz.prog W 0 (fun _ => true) true n 83 cs = some x) : ∃ t : Vl, cs = t.cells ∧ t.ok := by
  obtain ⟨xs, m, _, _, hl, hlen, hf⟩ := DataW.trod_struct Tryz.underlying83 h
  rw [cellsVl] at hl
  match cs, hl with
  | [c0, c1], _ =>
    match xs, hlen with
    | [y0, y1], _ =>
      have f0 := hf 0 _ rfl
      have f1 := hf 1 _ rfl
      simp [cellsI1, cellsS1] at f0 f1
      obtain ⟨k, e0, _, wk⟩ := DataW.trod_int Tryz.underlying3 f0
      obtain ⟨s, e1, _, ws⟩ := DataW.trod_string Tryz.underlying9 f1
      simp at e0 e1
      subst e0 e1
      exact ⟨⟨k, s⟩, rfl, bounds_i64 wk, ws⟩
set_option maxRecDepth 100000 in
theorem pd_of (n : Nat) (cs : List Value) (x : DataW H × List MemPlace) (h : DataW.trod enc' Tryz.prog W 0 (fun _ => true) true n 81 cs = some x) : ∃ t : Pd, cs = t.cells ∧ t.ok := by
  obtain ⟨xs, m, _, _, hl, hlen, hf⟩ := DataW.trod_struct Tryz.underlying81 h
  rw [cellsPd] at hl
  match cs, hl with
  | [c0, c1, c2, c3, c4], _ =>
    match xs, hlen with
    | [y0, y1, y2, y3, y4], _ =>
      have f0 := hf 0 _ rfl
      have f1 := hf 1 _ rfl
      have f2 := hf 2 _ rfl
      have f3 := hf 3 _ rfl
      have f4 := hf 4 _ rfl
      simp [cellsI1, cellsS1] at f0 f1 f2 f3 f4
      obtain ⟨s, e0, _, ws⟩ := DataW.trod_string Tryz.underlying9 f0
      obtain ⟨k, e1, _, wk⟩ := DataW.trod_int Tryz.underlying3 f1
      obtain ⟨n, e2, _, wn⟩ := DataW.trod_int Tryz.underlying3 f2
      obtain ⟨u, e3, _, wu⟩ := DataW.trod_int Tryz.underlying3 f3
      obtain ⟨q, e4, _, wq⟩ := DataW.trod_string Tryz.underlying9 f4
      simp at e0 e1 e2 e3 e4
      subst e0 e1 e2 e3 e4
      exact ⟨⟨s, k, n, u, q⟩, rfl, ws, bounds_i64 wk, bounds_i64 wn, bounds_i64 wu, wq⟩
set_option maxRecDepth 100000 in
theorem ev_of {n : Nat} {cs : Array Value} {x : DataW H × List MemPlace} (hcs : cs.size = Tryz.prog.cellsOf 48) (h : DataW.trod enc' Tryz.prog W 0 (fun _ => true) true n 48 (Value.agg cs).cells.toList = some x) :
    ∃ (a : Option Addr) (len cap : Nat) (t : List Vl) (s : ByteArray), cs = #[.slice a len cap, .string s] ∧ InRow 2 Vl.cells Vl.ok vl0 W a len t ∧ s.size ≤ maxLen := by
  obtain ⟨xs, m, _, _, hl, hlen, hf⟩ := DataW.trod_struct Tryz.underlying48 h
  rw [cellsEv] at hcs
  obtain ⟨l⟩ := cs
  match l, hcs with
  | [c0, c1], _ =>
    match xs, hlen with
    | [y0, y1], _ =>
      have f0 := hf 0 _ rfl
      have f1 := hf 1 _ rfl
      simp [cellsVs, cellsS1, Value.cells] at f0 f1
      obtain ⟨s, e1, _, ws⟩ := DataW.trod_string Tryz.underlying9 f1
      simp at e1
      subst e1
      obtain ⟨a, len, cap, rfl⟩ : ∃ a len cap, c0 = .slice a len cap := by
        rcases open_slice Tryz.underlying46 f0 with ⟨hcs, _⟩ | ⟨ad, l, c, m, n, D, Pl, hcs, _⟩
        · simp at hcs; exact ⟨_, _, _, hcs⟩
        · simp at hcs; exact ⟨_, _, _, hcs⟩
      obtain ⟨t, ht⟩ := inrow_of 2 Vl.cells Vl.ok vl0 46 83 Tryz.underlying46 cellsVl (by omega) Vl.cells_len (fun n cs x => vl_of n cs x) (a := a) (len := len) (cap := cap) (by simpa [Value.cells] using f0)
      exact ⟨a, len, cap, t, s, rfl, ht, ws⟩
end

theorem own_cells {α : Type} (enc : α → List Value) (k : Nat) (hk : ∀ a, (enc a).length = k) (d : α) {w : World} {B : Nat} {e : TypeId} {v : Value} {us : List α} (h : w.ownsRow B e k v us.length (us.flatMap enc)) (h0 : 0 < us.length) :
    ∃ g c, v = .slice (some ⟨g, 0, none⟩) us.length c ∧ us.length ≤ c ∧ B ≤ g ∧ g < w.heap.size ∧ ∀ i, i < us.length → ∀ j, j < k → w.cell? ⟨g, i * k + j, none⟩ = (enc (us.getD i d))[j]? := by
  rcases h.2 with ⟨_, h1⟩ | ⟨g, cap, cur, hv, hb, hg, hnc, _⟩
  · omega
  · refine ⟨g, cap, hv, hnc, hb, lt_of_block hg, fun i hi j hj => ?_⟩
    have hx := flat_get enc k hk d us i j hi hj
    have hj' : j < (enc (us.getD i d)).length := by rw [hk]; exact hj
    have e := h.cells (g := g) (by rw [hv]; rfl) (i * k + j) ((enc (us.getD i d))[j]) (by rw [hx, List.getElem?_eq_getElem hj'])
    have ea : (⟨g, 0, none⟩ : Addr).add (i * k + j) = ⟨g, i * k + j, none⟩ := by unfold Addr.add; split <;> simp_all
    rw [ea] at e
    rw [e, List.getElem?_eq_getElem hj']
theorem own_shape {w : World} {B : Nat} {e : TypeId} {k n : Nat} {v : Value} {xs : List Value} (h : w.ownsRow B e k v n xs) : ∃ a c, v = .slice a n c := by
  rcases h.2 with ⟨rfl, h1⟩ | ⟨g, cap, cur, hv, _⟩
  · exact ⟨none, 0, by rw [h1]⟩
  · exact ⟨_, _, hv⟩
theorem AtIn.ofOwn {w : World} {B : Nat} {e : TypeId} {v : Value} {us : List At} (h : w.ownsRow B e 4 v us.length (us.flatMap At.cells)) : AtIn w v us := by
  obtain ⟨a, c, hv⟩ := own_shape h
  refine ⟨a, c, hv, fun h0 => ?_⟩
  obtain ⟨g, c', hv', hc, _, hg, hj⟩ := own_cells At.cells 4 At.cells_len at0 h h0
  rw [hv] at hv'
  simp at hv'
  obtain ⟨rfl, rfl⟩ := hv'
  refine ⟨g, rfl, hg, hc, fun j hjl => ?_⟩
  have e := fun i hi => hj j hjl i hi
  exact ⟨by simpa [At.cells] using e 0 (by omega), by simpa [At.cells] using e 1 (by omega), by simpa [At.cells] using e 2 (by omega), by simpa [At.cells] using e 3 (by omega)⟩
theorem VlIn.ofOwn {w : World} {B : Nat} {e : TypeId} {v : Value} {us : List Vl} (h : w.ownsRow B e 2 v us.length (us.flatMap Vl.cells)) : VlIn w v us := by
  obtain ⟨a, c, hv⟩ := own_shape h
  refine ⟨a, c, hv, fun h0 => ?_⟩
  obtain ⟨g, c', hv', hc, _, hg, hj⟩ := own_cells Vl.cells 2 Vl.cells_len vl0 h h0
  rw [hv] at hv'
  simp at hv'
  obtain ⟨rfl, rfl⟩ := hv'
  refine ⟨g, rfl, hg, hc, fun j hjl => ?_⟩
  have e := fun i hi => hj j hjl i hi
  exact ⟨by simpa [Vl.cells] using e 0 (by omega), by simpa [Vl.cells] using e 1 (by omega)⟩
theorem PdIn.ofOwn {w : World} {B : Nat} {e : TypeId} {v : Value} {us : List Pd} (h : w.ownsRow B e 5 v us.length (us.flatMap Pd.cells)) : PdIn w v us := by
  obtain ⟨a, c, hv⟩ := own_shape h
  refine ⟨a, c, hv, fun h0 => ?_⟩
  obtain ⟨g, c', hv', hc, _, hg, hj⟩ := own_cells Pd.cells 5 Pd.cells_len pd0 h h0
  rw [hv] at hv'
  simp at hv'
  obtain ⟨rfl, rfl⟩ := hv'
  refine ⟨g, rfl, hg, hc, fun j hjl => ?_⟩
  have e := fun i hi => hj j hjl i hi
  exact ⟨by simpa [Pd.cells] using e 0 (by omega), by simpa [Pd.cells] using e 1 (by omega), by simpa [Pd.cells] using e 2 (by omega), by simpa [Pd.cells] using e 3 (by omega), by simpa [Pd.cells] using e 4 (by omega)⟩

theorem own_carry {B : Nat} {w w' : World} {e : TypeId} {k n : Nat} {v : Value} {xs : List Value} (h : w.ownsRow B e k v n xs) (hb : Below w.heap.size w w') : w'.ownsRow B e k v n xs := by
  refine ⟨h.1, ?_⟩
  rcases h.2 with h1 | ⟨g', cap, cur, hv, hbg, hg, hr⟩
  · exact .inl h1
  · exact .inr ⟨g', cap, cur, hv, hbg, (hb.block g' (lt_of_block hg)).trans hg, hr⟩
theorem own_keep {B : Nat} {w w' : World} {e : TypeId} {k n : Nat} {v : Value} {xs : List Value} (h : w.ownsRow B e k v n xs) (row : Option Nat) (hg : w.grownBy w' row) (hne : ∀ b, v.ownBlock = some b → row ≠ some b) : w'.ownsRow B e k v n xs := by
  refine h.kept hg ?_
  cases hv : v.ownBlock with
  | none => exact .inl rfl
  | some b => exact .inr fun e => hne b hv e.symm

/-- Two rows of the call's own, apart from one another; nothing of before has turned. -/
structure Rows2 (B : Nat) (w0 w : World) (e1 e2 : TypeId) (k : Nat) (v1 v2 : Value) (n : Nat) (xs1 xs2 : List Value) : Prop where
  r1 : w.ownsRow B e1 k v1 n xs1
  r2 : w.ownsRow B e2 k v2 n xs2
  ap : ∀ b, v1.ownBlock = some b → v2.ownBlock ≠ some b
  bel : Below B w0 w
  le : B ≤ w.heap.size
theorem Rows2.carry {B : Nat} {w0 w w' : World} {e1 e2 : TypeId} {k n : Nat} {v1 v2 : Value} {xs1 xs2 : List Value} (h : Rows2 B w0 w e1 e2 k v1 v2 n xs1 xs2) (hb : Below w.heap.size w w') : Rows2 B w0 w' e1 e2 k v1 v2 n xs1 xs2 :=
  ⟨own_carry h.r1 hb, own_carry h.r2 hb, h.ap, h.bel.trans (hb.mono h.le), Nat.le_trans h.le hb.size⟩
theorem grown_below {B : Nat} {w0 w w' : World} {e : TypeId} {k n : Nat} {v : Value} {xs : List Value} (hb : Below B w0 w) (hle : B ≤ w.heap.size) (h : w.ownsRow B e k v n xs) (hg : w.grownBy w' v.ownBlock) : Below B w0 w' :=
  hb.trans ⟨hg.os, hg.tape, hg.output, hg.size, fun j hj => hg.block j (by omega) (fun e => by have := (h.lt j e.symm).1; omega)⟩
/-- Appended to the first row, then to the second one. -/
theorem Rows2.step {B : Nat} {w0 w W1 W2 W3 W4 : World} {e1 e2 : TypeId} {k n m : Nat} {v1 v2 v1' v2' : Value} {xs1 xs2 ys1 ys2 : List Value} (h : Rows2 B w0 w e1 e2 k v1 v2 n xs1 xs2) (b1 : Below w.heap.size w W1)
    (r1 : W2.ownsRow B e1 k v1' m ys1) (g1 : W1.grownBy W2 v1.ownBlock) (n1 : ∀ j, v1'.ownBlock = some j → v1.ownBlock = some j ∨ W1.heap.size ≤ j)
    (b2 : Below W2.heap.size W2 W3) (r2 : W4.ownsRow B e2 k v2' m ys2) (g2 : W3.grownBy W4 v2.ownBlock) (n2 : ∀ j, v2'.ownBlock = some j → v2.ownBlock = some j ∨ W3.heap.size ≤ j) :
    Rows2 B w0 W4 e1 e2 k v1' v2' m ys1 ys2 := by
  have h1 := h.carry b1
  have q2 : W2.ownsRow B e2 k v2 n xs2 := own_keep h1.r2 _ g1 (fun b hb e => h1.ap b e hb)
  have q3 : W3.ownsRow B e2 k v2 n xs2 := own_carry q2 b2
  have l2 : ∀ j, v2.ownBlock = some j → j < W1.heap.size := fun j hj => (h1.r2.lt j hj).2
  have ap1 : ∀ b, v1'.ownBlock = some b → v2.ownBlock ≠ some b := fun b hb e => by
    rcases n1 b hb with q | q
    · exact h.ap b q e
    · have := l2 b e; omega
  have r1' : W3.ownsRow B e1 k v1' m ys1 := own_carry r1 b2
  have r1'' : W4.ownsRow B e1 k v1' m ys1 := own_keep r1' _ g2 (fun b hb e => ap1 b hb e)
  have bb2 := grown_below h1.bel h1.le h1.r1 g1
  have le2 : B ≤ W2.heap.size := Nat.le_trans h1.le g1.size
  have bb3 := bb2.trans (b2.mono le2)
  have le3 : B ≤ W3.heap.size := Nat.le_trans le2 b2.size
  refine ⟨r1'', r2, fun b hb e => ?_, grown_below bb3 le3 q3 g2, Nat.le_trans le3 g2.size⟩
  rcases n2 b e with q | q
  · exact ap1 b hb q
  · have := (r1'.lt b hb).2; omega
/-- The second row, where the first one was appended to. -/
theorem Rows2.mid {B : Nat} {w0 w W1 W2 : World} {e1 e2 : TypeId} {k n : Nat} {v1 v2 : Value} {xs1 xs2 : List Value} (h : Rows2 B w0 w e1 e2 k v1 v2 n xs1 xs2) (b1 : Below w.heap.size w W1) (g1 : W1.grownBy W2 v1.ownBlock) : W2.ownsRow B e2 k v2 n xs2 :=
  own_keep (h.carry b1).r2 _ g1 (fun b hb e => h.ap b e hb)
/-- A block that is new behind the two rows stays as it is. -/
theorem Rows2.box {B : Nat} {w0 w W1 W2 : World} {e1 e2 : TypeId} {k n : Nat} {v1 v2 : Value} {xs1 xs2 : List Value} (h : Rows2 B w0 w e1 e2 k v1 v2 n xs1 xs2) (b : Nat) (hb : w.heap.size ≤ b) (hb1 : b < W1.heap.size) (g1 : W1.grownBy W2 v1.ownBlock) : W2.heap[b]? = W1.heap[b]? :=
  g1.block b hb1 (fun e => by have := (h.r1.lt b e.symm).2; omega)
end Go.Proofs.YtkkbhkpeglcodaaGreatDoor

/- wigwaglaw05.Attrs: a schema of at most six attributes, and the same as the document's. -/
namespace Go.Proofs.YtkkbhkpeglcodaaGreatDoor
open Go.ChangeShapes Go.WideShapes Go.ChangeAt Go.RowKit
set_option linter.unusedVariables false

def cutA (a : At) : At := ⟨cut a.name 20, a.kind, a.mn, a.mx⟩
theorem Tryz.infoAt : (Tryz.prog.info? 79).map (fun i => (i.zero, i.size, i.bytes)) = some (some (.agg #[.string ByteArray.empty, .int .i64 0, .int .i64 0, .int .i64 0]), 4, 40) := by kernel_rfl
theorem Tryz.infoRAt : (Tryz.prog.info? 89).map (fun i => (i.zero, i.size, i.bytes)) = some (some (.agg #[.string ByteArray.empty, .int .i64 0, .int .i64 0, .int .i64 0]), 4, 40) := by kernel_rfl

theorem src_At (w : World) (q : At) (x : Nat) (hx : x = w.heap.size) :
    Src Tryz.prog 4 43 (.slice (some ⟨x, 0, none⟩) 1 1) 1 q.cells (w.alloc (.cells #[.string q.name, .int .i64 q.kind, .int .i64 q.mn, .int .i64 q.mx] 79)) :=
  Src.ofSlice _ Tryz.underlying43 _ 1 1 _ rfl (fun j u hu => by
    subst hx
    have := World.news_of_block (cs := #[.string q.name, .int .i64 q.kind, .int .i64 q.mn, .int .i64 q.mx]) (t := 79) (fr := (0, 0)) (heap_alloc_new w _) j u (by simpa [At.cells] using hu)
    exact this) (by simp [At.cells, Value.oneCell'])
theorem src_RAt (w : World) (q : At) (x : Nat) (hx : x = w.heap.size) :
    Src Tryz.prog 4 49 (.slice (some ⟨x, 0, none⟩) 1 1) 1 q.cells (w.alloc (.cells #[.string q.name, .int .i64 q.kind, .int .i64 q.mn, .int .i64 q.mx] 89)) :=
  Src.ofSlice _ Tryz.underlying49 _ 1 1 _ rfl (fun j u hu => by
    subst hx
    have := World.news_of_block (cs := #[.string q.name, .int .i64 q.kind, .int .i64 q.mn, .int .i64 q.mx]) (t := 89) (fr := (0, 0)) (heap_alloc_new w _) j u (by simpa [At.cells] using hu)
    exact this) (by simp [At.cells, Value.oneCell'])
theorem cutA_snoc (t : List At) (i : Nat) (hi : i < t.length) : ((t.take (i + 1)).map cutA).flatMap At.cells = ((t.take i).map cutA).flatMap At.cells ++ (cutA (t.getD i at0)).cells := by
  rw [List.take_succ_eq_append_getElem hi, List.map_append, List.flatMap_append]
  simp [hi]
theorem InRow.get {α : Type} {k : Nat} {enc : α → List Value} {ok : α → Prop} {d : α} {w : World} {a : Option Addr} {len : Nat} {xs : List α} (h : InRow k enc ok d w a len xs) (i : Nat) (hi : i < len) :
    ∃ b o, a = some ⟨b, o, none⟩ ∧ b < w.heap.size ∧ ok (xs.getD i d) ∧ ∀ j, j < k → w.cell? ⟨b, o + i * k + j, none⟩ = (enc (xs.getD i d))[j]? := by
  rcases h.2.2 with h0 | ⟨b, o, ha, hb, hc⟩
  · omega
  · exact ⟨b, o, ha, hb, (hc i hi).1, (hc i hi).2⟩

set_option maxRecDepth 100000 in
set_option maxHeartbeats 1000000 in
theorem attrs_any (a : Option Addr) (len cap : Nat) (t : List At) (w : World) (h : InRow 4 At.cells At.ok at0 w a len t) :
    Calls Tryz.prog 14 #[.slice a len cap] w fun e w' => ∃ v1 v2, e = .returned (.tuple #[v1, v2]) ∧
      Rows2 w.heap.size w w' 79 89 4 v1 v2 ((t.take 6).map cutA).length (((t.take 6).map cutA).flatMap At.cells) (((t.take 6).map cutA).flatMap At.cells) := by
  obtain ⟨i0, hi, hz0, hz1, hz2⟩ := info_parts Tryz.infoAt
  obtain ⟨i1, hj, hy0, hy1, hy2⟩ := info_parts Tryz.infoRAt
  have hlen := h.2.1
  have HL : Hid (t.length = len) := h.1
  have HI : Hid (InRow 4 At.cells At.ok at0 w a len t) := h
  have HS : Hid (Rows2 w.heap.size w ((w.alloc (.cells #[] 79)).alloc (.cells #[] 89)) 79 89 4 (.slice (some ⟨w.heap.size, 0, none⟩) 0 0) (.slice (some ⟨w.heap.size + 1, 0, none⟩) 0 0) 0 [] []) := by
    refine ⟨(World.ownsRow_made w #[] 0 (Nat.le_refl _) (Nat.zero_le _) rfl).alloc _, ?_, fun b hb e => ?_, below2 _ _ _, by simp; omega⟩
    · have := World.ownsRow_made (base := w.heap.size) (e := 89) (size := 4) (w.alloc (.cells #[] 79)) #[] 0 (by simp) (Nat.zero_le _) rfl
      simpa using this
    · simp [Value.ownBlock] at hb e; omega
  clear h
  go_enter Tryz.func14, Tryz.ntmps14
  go_wp2
  go_loopg [4, 5, 6] 6 (fun kx s4 s5 s6 wr => ∃ i : Nat, s6 = .int .i64 i ∧ i ≤ len ∧ i ≤ 6 ∧ kx = 6 - i ∧ (∃ a1 c1, s4 = .slice a1 i c1) ∧ (∃ a2 c2, s5 = .slice a2 i c2) ∧ Hid (Rows2 w.heap.size w wr 79 89 4 s4 s5 i (((t.take i).map cutA).flatMap At.cells) (((t.take i).map cutA).flatMap At.cells)))
  case atStart => exact ⟨0, rfl, Nat.zero_le _, Nat.zero_le _, rfl, ⟨_, _, rfl⟩, ⟨_, _, rfl⟩, by simpa using HS⟩
  case round =>
    obtain ⟨i, rfl, h1, h2, rfl, ⟨a1, c1, rfl⟩, ⟨a2, c2, rfl⟩, R⟩ := hrel
    by_cases hl : i < len
    · by_cases h6 : i < 6
      · obtain ⟨b, o, rfl, hb, hok, hcell⟩ := HI.out.get i hl
        have SN : Hid (((t.take (i + 1)).map cutA).flatMap At.cells = ((t.take i).map cutA).flatMap At.cells ++ (cutA (t.getD i at0)).cells) := cutA_snoc t i (by have := HL.out; omega)
        have hnm : (t.getD i at0).name.size ≤ maxLen := hok.1
        generalize t.getD i at0 = x at hcell hnm SN
        have hbw := R.out.bel
        have hle := R.out.le
        have e : ∀ j, wr.cell? ⟨b, j, none⟩ = w.cell? ⟨b, j, none⟩ := fun j => hbw.cell (p := ⟨b, j, none⟩) hb
        have k0 := hcell 0 (by omega)
        have k1 := hcell 1 (by omega)
        have k2 := hcell 2 (by omega)
        have k3 := hcell 3 (by omega)
        simp only [At.cells, ← e] at k0 k1 k2 k3
        simp at k0 k1 k2 k3
        have hlt : b < wr.heap.size := Nat.lt_of_lt_of_le hb hle
        clear hcell e hok hbw
        go_wp2_with fail
        refine (cut_any x.name 20 _ hnm).mono ?_
        rintro e w' ⟨rfl, hw'⟩
        subst w'
        go_wp2_with (at_builtin; refine wpList_own_append4 _ rfl _ _ 43 43 rfl w.heap.size 79 i0 _ 40 Tryz.underlying43 hi hz0 hz1 hz2 rfl _ _ _ rfl (own_carry R.out.r1 (below2 _ _ _)) _ 1 (cutA x).cells rfl (src_At (wr.alloc _) (cutA x) (wr.heap.size + 1) (by simp)) ?c3 ?c4 ?c5 ?_)
        case c3 => unfold maxLen; omega
        case c4 => omega
        case c5 => simp; omega
        intro v1' W2 ha
        have hbox := R.out.box (wr.heap.size) (Nat.le_refl _) (by simp; omega) ha.grown
        rw [Below.heap_alloc _ _ _ (by simp), heap_alloc_new] at hbox
        have m0 := blk_cell (j := 0) hbox (by simp)
        have m1 := blk_cell (j := 1) hbox (by simp)
        have m2 := blk_cell (j := 2) hbox (by simp)
        have m3 := blk_cell (j := 3) hbox (by simp)
        simp at m0 m1 m2 m3
        have mlt := lt_of_block hbox
        have Q2 : Hid (W2.ownsRow w.heap.size 89 4 (.slice a2 i c2) i (((t.take i).map cutA).flatMap At.cells)) := R.out.mid (below2 _ _ _) ha.grown
        have L2 : Hid (w.heap.size ≤ W2.heap.size) := Nat.le_trans hle (Nat.le_trans (below2 wr _ _).size ha.grown.size)
        obtain ⟨a1', c1', hv1⟩ := ha.shape
        subst hv1
        have HA : Hid _ := ha
        clear ha hbox k0 k1 k2 k3
        go_wp2_with (at_builtin; refine wpList_own_append4 _ rfl _ _ 49 49 rfl w.heap.size 89 i1 _ 40 Tryz.underlying49 hj hy0 hy1 hy2 rfl _ _ _ rfl (own_carry Q2.out (below1 _ _)) _ 1 (cutA x).cells rfl (src_RAt W2 (cutA x) _ rfl) ?d3 ?d4 ?d5 ?_)
        case d3 => unfold maxLen; omega
        case d4 => omega
        case d5 => have := L2.out; simp; omega
        intro v2' W4 ha2
        have hst := R.out.step (below2 _ _ _) HA.out.row HA.out.grown HA.out.new (below1 _ _) ha2.row ha2.grown ha2.new
        obtain ⟨a2', c2', hv2⟩ := ha2.shape
        subst hv2
        have HST : Hid (Rows2 w.heap.size w W4 79 89 4 (.slice a1' (i + 1) c1') (.slice a2' (i + 1) c2') (i + 1) (((t.take (i + 1)).map cutA).flatMap At.cells) (((t.take (i + 1)).map cutA).flatMap At.cells)) := by
          show Rows2 _ _ _ _ _ _ _ _ _ _ _
          rw [SN.out, List.map_take]; exact hst
        clear hst ha2 HA Q2 L2 m0 m1 m2 m3 mlt
        go_wp2
        go_roundg (6 - (i + 1))
        case measure => omega
        case rel => exact ⟨i + 1, by go_num, by omega, by omega, rfl, ⟨_, _, rfl⟩, ⟨_, _, rfl⟩, HST⟩
      · obtain rfl : i = 6 := by omega
        have HE : Hid (((t.take 6).map cutA).length = 6) := (by have := HL.out; simp; omega : ((t.take 6).map cutA).length = 6)
        go_wp2
        go_ret2
        exact ⟨_, _, rfl, by rw [HE.out]; exact R.out⟩
    · obtain rfl : i = len := by omega
      have HE : Hid (t.take i = t.take 6 ∧ ((t.take 6).map cutA).length = i) := (by
        have := HL.out
        refine ⟨?_, by simp; omega⟩
        rw [List.take_of_length_le (by omega), List.take_of_length_le (by omega)] : t.take i = t.take 6 ∧ ((t.take 6).map cutA).length = i)
      go_wp2
      go_ret2
      exact ⟨_, _, rfl, by rw [HE.out.2, ← HE.out.1]; exact R.out⟩
end Go.Proofs.YtkkbhkpeglcodaaGreatDoor

/- wigwaglaw05.Preds: a filter of at most six predicates, and the same as the document's. -/
namespace Go.Proofs.YtkkbhkpeglcodaaGreatDoor
open Go.ChangeShapes Go.WideShapes Go.ChangeAt Go.RowKit
set_option linter.unusedVariables false

def cutP (a : Pd) : Pd := ⟨cut a.name 20, a.op, a.lo, a.hi, cut a.str 50⟩
theorem Tryz.infoPdv : (Tryz.prog.info? 81).map (fun i => (i.zero, i.size, i.bytes)) = some (some (.agg #[.string ByteArray.empty, .int .i64 0, .int .i64 0, .int .i64 0, .string ByteArray.empty]), 5, 56) := by kernel_rfl
theorem Tryz.infoRPd : (Tryz.prog.info? 90).map (fun i => (i.zero, i.size, i.bytes)) = some (some (.agg #[.string ByteArray.empty, .int .i64 0, .int .i64 0, .int .i64 0, .string ByteArray.empty]), 5, 56) := by kernel_rfl

theorem src_Pd (w : World) (q : Pd) (x : Nat) (hx : x = w.heap.size) :
    Src Tryz.prog 5 45 (.slice (some ⟨x, 0, none⟩) 1 1) 1 q.cells (w.alloc (.cells #[.string q.name, .int .i64 q.op, .int .i64 q.lo, .int .i64 q.hi, .string q.str] 81)) :=
  Src.ofSlice _ Tryz.underlying45 _ 1 1 _ rfl (fun j u hu => by
    subst hx
    have := World.news_of_block (cs := #[.string q.name, .int .i64 q.op, .int .i64 q.lo, .int .i64 q.hi, .string q.str]) (t := 81) (fr := (0, 0)) (heap_alloc_new w _) j u (by simpa [Pd.cells] using hu)
    exact this) (by simp [Pd.cells, Value.oneCell'])
theorem src_RPd (w : World) (q : Pd) (x : Nat) (hx : x = w.heap.size) :
    Src Tryz.prog 5 52 (.slice (some ⟨x, 0, none⟩) 1 1) 1 q.cells (w.alloc (.cells #[.string q.name, .int .i64 q.op, .int .i64 q.lo, .int .i64 q.hi, .string q.str] 90)) :=
  Src.ofSlice _ Tryz.underlying52 _ 1 1 _ rfl (fun j u hu => by
    subst hx
    have := World.news_of_block (cs := #[.string q.name, .int .i64 q.op, .int .i64 q.lo, .int .i64 q.hi, .string q.str]) (t := 90) (fr := (0, 0)) (heap_alloc_new w _) j u (by simpa [Pd.cells] using hu)
    exact this) (by simp [Pd.cells, Value.oneCell'])
theorem cutP_snoc (t : List Pd) (i : Nat) (hi : i < t.length) : ((t.take (i + 1)).map cutP).flatMap Pd.cells = ((t.take i).map cutP).flatMap Pd.cells ++ (cutP (t.getD i pd0)).cells := by
  rw [List.take_succ_eq_append_getElem hi, List.map_append, List.flatMap_append]
  simp [hi]
set_option maxRecDepth 100000 in
set_option maxHeartbeats 1000000 in
theorem preds_any (a : Option Addr) (len cap : Nat) (t : List Pd) (w : World) (h : InRow 5 Pd.cells Pd.ok pd0 w a len t) :
    Calls Tryz.prog 15 #[.slice a len cap] w fun e w' => ∃ v1 v2, e = .returned (.tuple #[v1, v2]) ∧
      Rows2 w.heap.size w w' 81 90 5 v1 v2 ((t.take 6).map cutP).length (((t.take 6).map cutP).flatMap Pd.cells) (((t.take 6).map cutP).flatMap Pd.cells) := by
  obtain ⟨i0, hi, hz0, hz1, hz2⟩ := info_parts Tryz.infoPdv
  obtain ⟨i1, hj, hy0, hy1, hy2⟩ := info_parts Tryz.infoRPd
  have hlen := h.2.1
  have HL : Hid (t.length = len) := h.1
  have HI : Hid (InRow 5 Pd.cells Pd.ok pd0 w a len t) := h
  have HS : Hid (Rows2 w.heap.size w ((w.alloc (.cells #[] 81)).alloc (.cells #[] 90)) 81 90 5 (.slice (some ⟨w.heap.size, 0, none⟩) 0 0) (.slice (some ⟨w.heap.size + 1, 0, none⟩) 0 0) 0 [] []) := by
    refine ⟨(World.ownsRow_made w #[] 0 (Nat.le_refl _) (Nat.zero_le _) rfl).alloc _, ?_, fun b hb e => ?_, below2 _ _ _, by simp; omega⟩
    · have := World.ownsRow_made (base := w.heap.size) (e := 90) (size := 5) (w.alloc (.cells #[] 81)) #[] 0 (by simp) (Nat.zero_le _) rfl
      simpa using this
    · simp [Value.ownBlock] at hb e; omega
  clear h
  go_enter Tryz.func15, Tryz.ntmps15
  go_wp2
  go_loopg [4, 5, 6] 6 (fun kx s4 s5 s6 wr => ∃ i : Nat, s6 = .int .i64 i ∧ i ≤ len ∧ i ≤ 6 ∧ kx = 6 - i ∧ (∃ a1 c1, s4 = .slice a1 i c1) ∧ (∃ a2 c2, s5 = .slice a2 i c2) ∧ Hid (Rows2 w.heap.size w wr 81 90 5 s4 s5 i (((t.take i).map cutP).flatMap Pd.cells) (((t.take i).map cutP).flatMap Pd.cells)))
  case atStart => exact ⟨0, rfl, Nat.zero_le _, Nat.zero_le _, rfl, ⟨_, _, rfl⟩, ⟨_, _, rfl⟩, by simpa using HS⟩
  case round =>
    obtain ⟨i, rfl, h1, h2, rfl, ⟨a1, c1, rfl⟩, ⟨a2, c2, rfl⟩, R⟩ := hrel
    by_cases hl : i < len
    · by_cases h6 : i < 6
      · obtain ⟨b, o, rfl, hb, hok, hcell⟩ := HI.out.get i hl
        have SN : Hid (((t.take (i + 1)).map cutP).flatMap Pd.cells = ((t.take i).map cutP).flatMap Pd.cells ++ (cutP (t.getD i pd0)).cells) := cutP_snoc t i (by have := HL.out; omega)
        have hnm : (t.getD i pd0).name.size ≤ maxLen := hok.1
        have hnq : (t.getD i pd0).str.size ≤ maxLen := hok.2.2.2.2
        generalize t.getD i pd0 = x at hcell hnm hnq SN
        have hbw := R.out.bel
        have hle := R.out.le
        have e : ∀ j, wr.cell? ⟨b, j, none⟩ = w.cell? ⟨b, j, none⟩ := fun j => hbw.cell (p := ⟨b, j, none⟩) hb
        have k0 := hcell 0 (by omega)
        have k1 := hcell 1 (by omega)
        have k2 := hcell 2 (by omega)
        have k3 := hcell 3 (by omega)
        have k4 := hcell 4 (by omega)
        simp only [Pd.cells, ← e] at k0 k1 k2 k3 k4
        simp at k0 k1 k2 k3 k4
        have hlt : b < wr.heap.size := Nat.lt_of_lt_of_le hb hle
        clear hcell e hok hbw
        go_wp2_with fail
        refine (cut_any x.name 20 _ hnm).mono ?_
        rintro e w' ⟨rfl, hw'⟩
        subst w'
        go_wp2_with fail
        refine (cut_any x.str 50 _ hnq).mono ?_
        rintro e w' ⟨rfl, hw'⟩
        subst w'
        go_wp2_with (at_builtin; refine wpList_own_append5 _ rfl _ _ 45 45 rfl w.heap.size 81 i0 _ 56 Tryz.underlying45 hi hz0 hz1 hz2 rfl _ _ _ rfl (own_carry R.out.r1 (below2 _ _ _)) _ 1 (cutP x).cells rfl (src_Pd (wr.alloc _) (cutP x) (wr.heap.size + 1) (by simp)) ?c3 ?c4 ?c5 ?_)
        case c3 => unfold maxLen; omega
        case c4 => omega
        case c5 => simp; omega
        intro v1' W2 ha
        have hbox := R.out.box (wr.heap.size) (Nat.le_refl _) (by simp; omega) ha.grown
        rw [Below.heap_alloc _ _ _ (by simp), heap_alloc_new] at hbox
        have m0 := blk_cell (j := 0) hbox (by simp)
        have m1 := blk_cell (j := 1) hbox (by simp)
        have m2 := blk_cell (j := 2) hbox (by simp)
        have m3 := blk_cell (j := 3) hbox (by simp)
        have m4 := blk_cell (j := 4) hbox (by simp)
        simp at m0 m1 m2 m3 m4
        have mlt := lt_of_block hbox
        have Q2 : Hid (W2.ownsRow w.heap.size 90 5 (.slice a2 i c2) i (((t.take i).map cutP).flatMap Pd.cells)) := R.out.mid (below2 _ _ _) ha.grown
        have L2 : Hid (w.heap.size ≤ W2.heap.size) := Nat.le_trans hle (Nat.le_trans (below2 wr _ _).size ha.grown.size)
        obtain ⟨a1', c1', hv1⟩ := ha.shape
        subst hv1
        have HA : Hid _ := ha
        clear ha hbox k0 k1 k2 k3 k4
        go_wp2_with (at_builtin; refine wpList_own_append5 _ rfl _ _ 52 52 rfl w.heap.size 90 i1 _ 56 Tryz.underlying52 hj hy0 hy1 hy2 rfl _ _ _ rfl (own_carry Q2.out (below1 _ _)) _ 1 (cutP x).cells rfl (src_RPd W2 (cutP x) _ rfl) ?d3 ?d4 ?d5 ?_)
        case d3 => unfold maxLen; omega
        case d4 => omega
        case d5 => have := L2.out; simp; omega
        intro v2' W4 ha2
        have hst := R.out.step (below2 _ _ _) HA.out.row HA.out.grown HA.out.new (below1 _ _) ha2.row ha2.grown ha2.new
        obtain ⟨a2', c2', hv2⟩ := ha2.shape
        subst hv2
        have HST : Hid (Rows2 w.heap.size w W4 81 90 5 (.slice a1' (i + 1) c1') (.slice a2' (i + 1) c2') (i + 1) (((t.take (i + 1)).map cutP).flatMap Pd.cells) (((t.take (i + 1)).map cutP).flatMap Pd.cells)) := by
          show Rows2 _ _ _ _ _ _ _ _ _ _ _
          rw [SN.out, List.map_take]; exact hst
        clear hst ha2 HA Q2 L2 m0 m1 m2 m3 m4 mlt
        go_wp2
        go_roundg (6 - (i + 1))
        case measure => omega
        case rel => exact ⟨i + 1, by go_num, by omega, by omega, rfl, ⟨_, _, rfl⟩, ⟨_, _, rfl⟩, HST⟩
      · obtain rfl : i = 6 := by omega
        have HE : Hid (((t.take 6).map cutP).length = 6) := (by have := HL.out; simp; omega : ((t.take 6).map cutP).length = 6)
        go_wp2
        go_ret2
        exact ⟨_, _, rfl, by rw [HE.out]; exact R.out⟩
    · obtain rfl : i = len := by omega
      have HE : Hid (t.take i = t.take 6 ∧ ((t.take 6).map cutP).length = i) := (by
        have := HL.out
        refine ⟨?_, by simp; omega⟩
        rw [List.take_of_length_le (by omega), List.take_of_length_le (by omega)] : t.take i = t.take 6 ∧ ((t.take 6).map cutP).length = i)
      go_wp2
      go_ret2
      exact ⟨_, _, rfl, by rw [HE.out.2, ← HE.out.1]; exact R.out⟩
end Go.Proofs.YtkkbhkpeglcodaaGreatDoor

/- wigwaglaw05.Event: an event of at most six values, and its values as the document's. -/
namespace Go.Proofs.YtkkbhkpeglcodaaGreatDoor
open Go.ChangeShapes Go.WideShapes Go.ChangeAt Go.RowKit
set_option linter.unusedVariables false

def cutV (a : Vl) : Vl := ⟨a.num, cut a.str 50⟩
theorem Tryz.infoVl : (Tryz.prog.info? 83).map (fun i => (i.zero, i.size, i.bytes)) = some (some (.agg #[.int .i64 0, .string ByteArray.empty]), 2, 24) := by kernel_rfl
theorem Tryz.infoRVl : (Tryz.prog.info? 91).map (fun i => (i.zero, i.size, i.bytes)) = some (some (.agg #[.int .i64 0, .string ByteArray.empty]), 2, 24) := by kernel_rfl
theorem src_Vl (w : World) (q : Vl) (x : Nat) (hx : x = w.heap.size) :
    Src Tryz.prog 2 46 (.slice (some ⟨x, 0, none⟩) 1 1) 1 q.cells (w.alloc (.cells #[.int .i64 q.num, .string q.str] 83)) :=
  Src.ofSlice _ Tryz.underlying46 _ 1 1 _ rfl (fun j u hu => by
    subst hx
    have := World.news_of_block (cs := #[.int .i64 q.num, .string q.str]) (t := 83) (fr := (0, 0)) (heap_alloc_new w _) j u (by simpa [Vl.cells] using hu)
    exact this) (by simp [Vl.cells, Value.oneCell'])
theorem src_RVl (w : World) (q : Vl) (x : Nat) (hx : x = w.heap.size) :
    Src Tryz.prog 2 55 (.slice (some ⟨x, 0, none⟩) 1 1) 1 q.cells (w.alloc (.cells #[.int .i64 q.num, .string q.str] 91)) :=
  Src.ofSlice _ Tryz.underlying55 _ 1 1 _ rfl (fun j u hu => by
    subst hx
    have := World.news_of_block (cs := #[.int .i64 q.num, .string q.str]) (t := 91) (fr := (0, 0)) (heap_alloc_new w _) j u (by simpa [Vl.cells] using hu)
    exact this) (by simp [Vl.cells, Value.oneCell'])
theorem cutV_snoc (t : List Vl) (i : Nat) (hi : i < t.length) : ((t.take (i + 1)).map cutV).flatMap Vl.cells = ((t.take i).map cutV).flatMap Vl.cells ++ (cutV (t.getD i vl0)).cells := by
  rw [List.take_succ_eq_append_getElem hi, List.map_append, List.flatMap_append]
  simp [hi]

/-- An event that is being made: its box p, its row v1, the document's row v2. -/
structure Ev (B : Nat) (w0 w : World) (p : Nat) (pay : ByteArray) (v1 v2 : Value) (n1 n2 : Nat) (xs1 xs2 : List Value) : Prop where
  r1 : w.ownsRow B 83 2 v1 n1 xs1
  r2 : w.ownsRow B 91 2 v2 n2 xs2
  ap : ∀ b, v1.ownBlock = some b → v2.ownBlock ≠ some b
  box : w.heap[p]? = some (.cells #[v1, .string pay] 48 (0, 0))
  a1 : v1.ownBlock ≠ some p
  a2 : v2.ownBlock ≠ some p
  lo : B ≤ p
  bel : Below B w0 w
  le : B ≤ w.heap.size
section
variable {B : Nat} {w0 w W2 : World} {p : Nat} {pay : ByteArray} {v1 v2 v' : Value} {n1 n2 m : Nat} {xs1 xs2 ys : List Value}
theorem Ev.lt (h : Ev B w0 w p pay v1 v2 n1 n2 xs1 xs2) : p < w.heap.size := lt_of_block h.box
theorem Ev.carry {w' : World} (h : Ev B w0 w p pay v1 v2 n1 n2 xs1 xs2) (hb : Below w.heap.size w w') : Ev B w0 w' p pay v1 v2 n1 n2 xs1 xs2 :=
  ⟨own_carry h.r1 hb, own_carry h.r2 hb, h.ap, (hb.block p h.lt).trans h.box, h.a1, h.a2, h.lo, h.bel.trans (hb.mono h.le), Nat.le_trans h.le hb.size⟩
/-- The first row behind an append, ahead of the store. -/
theorem Ev.box2 (h : Ev B w0 w p pay v1 v2 n1 n2 xs1 xs2) (g : w.grownBy W2 v1.ownBlock) : W2.heap[p]? = some (.cells #[v1, .string pay] 48 (0, 0)) :=
  (g.block p h.lt (fun e => h.a1 e.symm)).trans h.box
theorem Ev.step1 (h : Ev B w0 w p pay v1 v2 n1 n2 xs1 xs2) (r : W2.ownsRow B 83 2 v' m ys) (g : w.grownBy W2 v1.ownBlock) (nw : ∀ j, v'.ownBlock = some j → v1.ownBlock = some j ∨ w.heap.size ≤ j) :
    Ev B w0 (W2.setCell ⟨p, 0, none⟩ v') p pay v' v2 m n2 ys xs2 := by
  have hp := h.lt
  have q2 : W2.ownsRow B 91 2 v2 n2 xs2 := own_keep h.r2 _ g (fun b hb e => h.ap b e hb)
  have a1' : v'.ownBlock ≠ some p := fun e => by
    rcases nw p e with q | q
    · exact h.a1 q
    · omega
  have hb2 := h.box2 g
  have hset : (W2.setCell ⟨p, 0, none⟩ v').heap[p]? = some (.cells #[v', .string pay] 48 (0, 0)) := by
    have hlt := lt_of_block hb2
    have h' : W2.heap[p] = .cells #[v1, .string pay] 48 (0, 0) := by simpa [Array.getElem?_eq_getElem hlt] using hb2
    show (W2.heap.modify p _)[p]? = _
    rw [Array.getElem?_eq_getElem (by simpa using hlt), Array.getElem_modify_self, h']
    rfl
  have bb := grown_below h.bel h.le h.r1 g
  refine ⟨ownsRow_setCell_other r (a := ⟨p, 0, none⟩) a1' v', ownsRow_setCell_other q2 (a := ⟨p, 0, none⟩) h.a2 v', fun b hb e => ?_, hset, a1', h.a2, h.lo, bb.setCell (by have := h.lo; exact this) _, ?_⟩
  · rcases nw b hb with q | q
    · exact h.ap b q e
    · have := (h.r2.lt b e).2; omega
  · have := h.le; have := g.size; simp [World.setCell]; omega
theorem Ev.step2 (h : Ev B w0 w p pay v1 v2 n1 n2 xs1 xs2) (r : W2.ownsRow B 91 2 v' m ys) (g : w.grownBy W2 v2.ownBlock) (nw : ∀ j, v'.ownBlock = some j → v2.ownBlock = some j ∨ w.heap.size ≤ j) :
    Ev B w0 W2 p pay v1 v' n1 m xs1 ys := by
  have hp := h.lt
  have q1 : W2.ownsRow B 83 2 v1 n1 xs1 := own_keep h.r1 _ g (fun b hb e => h.ap b hb e)
  refine ⟨q1, r, fun b hb e => ?_, (g.block p hp (fun e => h.a2 e.symm)).trans h.box, h.a1, fun e => ?_, h.lo, grown_below h.bel h.le h.r2 g, Nat.le_trans h.le g.size⟩
  · rcases nw b e with q | q
    · exact h.ap b hb q
    · have := (h.r1.lt b hb).2; omega
  · rcases nw p e with q | q
    · exact h.a2 q
    · omega
theorem Ev.keep1 {b : Nat} (h : Ev B w0 w p pay v1 v2 n1 n2 xs1 xs2) (hb : v1.ownBlock ≠ some b) (hlt : b < w.heap.size) (g : w.grownBy W2 v1.ownBlock) : W2.heap[b]? = w.heap[b]? := g.block b hlt (fun e => hb e.symm)
end

theorem own_base {B B' : Nat} {w : World} {e : TypeId} {k n : Nat} {v : Value} {xs : List Value} (h : w.ownsRow B e k v n xs) (hb : B' ≤ B) : w.ownsRow B' e k v n xs := by
  refine ⟨h.1, ?_⟩
  rcases h.2 with h1 | ⟨g', cap, cur, hv, hbg, hr⟩
  · exact .inl h1
  · exact .inr ⟨g', cap, cur, hv, Nat.le_trans hb hbg, hr⟩
/-- The event is laid down as the answer. -/
theorem Ev.done {B : Nat} {w00 w0 w : World} {p q : Nat} {pay : ByteArray} {v1 v2 x y : Value} {n1 n2 : Nat} {xs1 xs2 : List Value} (h : Ev B w0 w p pay v1 v2 n1 n2 xs1 xs2) (hB : w00.heap.size ≤ q) (hq : q < B) (hw : w00.heap.size ≤ B) (hb : Below w00.heap.size w00 w0) :
    ((w.setCell ⟨q, 0, none⟩ x).setCell ⟨q, 1, none⟩ y).ownsRow w00.heap.size 83 2 v1 n1 xs1 ∧
    ((w.setCell ⟨q, 0, none⟩ x).setCell ⟨q, 1, none⟩ y).ownsRow w00.heap.size 91 2 v2 n2 xs2 ∧
    (∀ b, v1.ownBlock = some b → v2.ownBlock ≠ some b) ∧ Below w00.heap.size w00 ((w.setCell ⟨q, 0, none⟩ x).setCell ⟨q, 1, none⟩ y) := by
  have n1' : v1.ownBlock ≠ some q := fun e => by have := (h.r1.lt q e).1; omega
  have n2' : v2.ownBlock ≠ some q := fun e => by have := (h.r2.lt q e).1; omega
  exact ⟨own_base (ownsRow_setCell_other (ownsRow_setCell_other h.r1 (a := ⟨q, 0, none⟩) n1' _) (a := ⟨q, 1, none⟩) n1' _) hw, own_base (ownsRow_setCell_other (ownsRow_setCell_other h.r2 (a := ⟨q, 0, none⟩) n2' _) (a := ⟨q, 1, none⟩) n2' _) hw, h.ap,
    ((hb.trans (h.bel.mono hw)).setCell hB _).setCell hB _⟩

set_option maxRecDepth 100000 in
set_option maxHeartbeats 1000000 in
theorem ev_any (a : Option Addr) (len cap : Nat) (s : ByteArray) (t : List Vl) (w : World) (h : InRow 2 Vl.cells Vl.ok vl0 w a len t) (hs : s.size ≤ maxLen) :
    Calls Tryz.prog 16 #[.agg #[.slice a len cap, .string s]] w fun e w' => ∃ v1 v2, e = .returned (.tuple #[.agg #[v1, .string (cut s 210)], v2]) ∧
      w'.ownsRow w.heap.size 83 2 v1 ((t.take 6).map cutV).length (((t.take 6).map cutV).flatMap Vl.cells) ∧
      w'.ownsRow w.heap.size 91 2 v2 ((t.take 6).map cutV).length (((t.take 6).map cutV).flatMap Vl.cells) ∧ (∀ b, v1.ownBlock = some b → v2.ownBlock ≠ some b) ∧ Below w.heap.size w w' := by
  obtain ⟨i0, hi, hz0, hz1, hz2⟩ := info_parts Tryz.infoVl
  obtain ⟨i1, hj, hy0, hy1, hy2⟩ := info_parts Tryz.infoRVl
  have hlen := h.2.1
  have HL : Hid (t.length = len) := h.1
  obtain ⟨pay, hpay⟩ : ∃ pay, pay = cut s 210 := ⟨_, rfl⟩
  have HP : Hid (pay = cut s 210) := hpay
  rw [← hpay]
  clear hpay
  obtain ⟨w1, hw1⟩ : ∃ w1, w1 = (w.alloc (.cells #[.slice a len cap, .string s] 48)).alloc (.cells #[.slice none 0 0, .string ⟨#[]⟩] 48) := ⟨_, rfl⟩
  have s1 : w1.heap.size = w.heap.size + 2 := by rw [hw1]; simp
  have b1 : Below w.heap.size w w1 := by rw [hw1]; exact below2 _ _ _
  have x0 : w1.heap[w.heap.size]? = some (.cells #[.slice a len cap, .string s] 48 (0, 0)) := by rw [hw1, Below.heap_alloc _ _ _ (by simp)]; exact heap_alloc_new _ _
  have x1 : w1.heap[w.heap.size + 1]? = some (.cells #[.slice none 0 0, .string ⟨#[]⟩] 48 (0, 0)) := by
    have := heap_alloc_new (w.alloc (.cells #[.slice a len cap, .string s] 48)) (.cells #[.slice none 0 0, .string ⟨#[]⟩] 48)
    rw [hw1]; simpa using this
  have HI : Hid (InRow 2 Vl.cells Vl.ok vl0 w1 a len t) := h.below (Nat.le_refl _) b1
  go_enter Tryz.func16, Tryz.ntmps16
  go_wp2_with fail
  refine (cut_any s 210 _ hs).mono ?_
  rintro e w' ⟨rfl, hw'⟩
  subst w'
  rw [← HP.out]
  have HS : Hid (Ev w1.heap.size w1 ((w1.alloc (.cells #[] 91)).alloc (.cells #[.slice none 0 0, .string pay] 48)) (w.heap.size + 1 + 1 + 1) pay (.slice none 0 0) (.slice (some ⟨w.heap.size + 1 + 1, 0, none⟩) 0 0) 0 0 [] []) := by
    have s2 : w.heap.size + 1 + 1 = w1.heap.size := by omega
    have q := World.ownsRow_made (base := w1.heap.size) (e := 91) (size := 2) w1 #[] 0 (Nat.le_refl _) (Nat.zero_le _) rfl
    rw [s2]
    refine ⟨World.ownsRow_nil _ _ _ _, q.alloc _, fun b hb e => by simp [Value.ownBlock] at hb, new_at (by simp), by simp [Value.ownBlock], by simp [Value.ownBlock], by omega, below2 _ _ _, by simp; omega⟩
  have HX : Hid (w1.heap.size = w.heap.size + 2 ∧ Below w.heap.size w w1) := ⟨s1, b1⟩
  go_wp2
  rw [← hw1]
  clear hw1 h s1 b1
  go_loopg [5, 6] 6 (fun kx s5 s6 wr => ∃ i : Nat, s6 = .int .i64 i ∧ i ≤ len ∧ i ≤ 6 ∧ kx = 6 - i ∧ (∃ a2 c2, s5 = .slice a2 i c2) ∧ ∃ a1 c1, Hid (Ev w1.heap.size w1 wr (w.heap.size + 1 + 1 + 1) pay (.slice a1 i c1) s5 i i (((t.take i).map cutV).flatMap Vl.cells) (((t.take i).map cutV).flatMap Vl.cells)))
  case atStart => exact ⟨0, rfl, Nat.zero_le _, Nat.zero_le _, rfl, ⟨_, _, rfl⟩, none, 0, by simpa using HS⟩
  case round =>
    obtain ⟨i, rfl, h1, h2, rfl, ⟨a2, c2, rfl⟩, a1, c1, R⟩ := hrel
    have hle := R.out.le
    have hP := R.out.lt
    have y0 := blk_cell (j := 0) ((R.out.bel.block _ (by have := HX.out.1; omega)).trans x0) (by simp)
    simp at y0
    have p0 := blk_cell (j := 0) R.out.box (by simp)
    have p1 := blk_cell (j := 1) R.out.box (by simp)
    simp at p0 p1
    have hw1 : w.heap.size < wr.heap.size := by omega
    by_cases hl : i < len
    · by_cases h6 : i < 6
      · obtain ⟨b, o, rfl, hb, hok, hcell⟩ := HI.out.get i hl
        have SN : Hid (((t.take (i + 1)).map cutV).flatMap Vl.cells = ((t.take i).map cutV).flatMap Vl.cells ++ (cutV (t.getD i vl0)).cells) := cutV_snoc t i (by have := HL.out; omega)
        have hnm : (t.getD i vl0).str.size ≤ maxLen := hok.2
        generalize t.getD i vl0 = x at hcell hnm SN
        have hbw := R.out.bel
        have e : ∀ j, wr.cell? ⟨b, j, none⟩ = w1.cell? ⟨b, j, none⟩ := fun j => hbw.cell (p := ⟨b, j, none⟩) hb
        have k0 := hcell 0 (by omega)
        have k1 := hcell 1 (by omega)
        simp only [Vl.cells, ← e] at k0 k1
        simp at k0 k1
        have hlt : b < wr.heap.size := Nat.lt_of_lt_of_le hb hle
        clear hcell e hok hbw
        go_wp2_with fail
        refine (cut_any x.str 50 _ hnm).mono ?_
        rintro e w' ⟨rfl, hw'⟩
        subst w'
        go_wp2_with (at_builtin; refine wpList_own_append2 _ rfl _ _ 46 46 rfl w1.heap.size 83 i0 _ 24 Tryz.underlying46 hi hz0 hz1 hz2 rfl _ _ _ rfl (own_carry R.out.r1 (below2 _ _ _)) _ 1 (cutV x).cells rfl (src_Vl (wr.alloc _) (cutV x) (wr.heap.size + 1) (by simp)) ?c3 ?c4 ?c5 ?_)
        case c3 => unfold maxLen; omega
        case c4 => omega
        case c5 => simp; omega
        intro v1' W2 ha
        have hc2 := R.out.carry (below2 wr (.cells #[.int .i64 x.num, .string (cut x.str 50)] 83) (.cells #[.int .i64 x.num, .string (cut x.str 50)] 83))
        have E1 : Hid (Ev w1.heap.size w1 (W2.setCell ⟨w.heap.size + 1 + 1 + 1, 0, none⟩ v1') (w.heap.size + 1 + 1 + 1) pay v1' (.slice a2 i c2) (i + 1) i _ _) := hc2.step1 ha.row ha.grown ha.new
        have hb2 := hc2.box2 ha.grown
        have z0 := blk_cell (j := 0) hb2 (by simp)
        have z1 := blk_cell (j := 1) hb2 (by simp)
        simp at z0 z1
        have zf : W2.frozen? ⟨w.heap.size + 1 + 1 + 1, 0, none⟩ = false := by simp [World.frozen?, hb2]
        have zl := lt_of_block hb2
        have hbx : W2.heap[wr.heap.size]? = some (.cells #[.int .i64 x.num, .string (cut x.str 50)] 83 (0, 0)) := by
          rw [hc2.keep1 (fun e => by have := (R.out.r1.lt _ e).2; omega) (by simp; omega) ha.grown, Below.heap_alloc _ _ _ (by simp)]
          exact heap_alloc_new _ _
        have hne : w.heap.size + 1 + 1 + 1 ≠ wr.heap.size := by omega
        have hbx2 : (W2.setCell ⟨w.heap.size + 1 + 1 + 1, 0, none⟩ v1').heap[wr.heap.size]? = some (.cells #[.int .i64 x.num, .string (cut x.str 50)] 83 (0, 0)) := by
          rw [Below.heap_setCell _ _ _ _ (by simpa using hne.symm)]; exact hbx
        have m0 := blk_cell (j := 0) hbx2 (by simp)
        have m1 := blk_cell (j := 1) hbx2 (by simp)
        simp at m0 m1
        have ml := lt_of_block hbx2
        have L2 : Hid (w1.heap.size ≤ (W2.setCell ⟨w.heap.size + 1 + 1 + 1, 0, none⟩ v1').heap.size) := E1.out.le
        obtain ⟨a1', c1', hv1⟩ := ha.shape
        subst hv1
        have hsz : (W2.setCell ⟨w.heap.size + 1 + 1 + 1, 0, none⟩ (.slice a1' (i + 1) c1')).heap.size = W2.heap.size := by simp [World.setCell]
        clear ha hb2 hbx hbx2 k0 k1 hc2 p0 p1 y0
        go_wp2_with (at_builtin; refine wpList_own_append2 _ rfl _ _ 55 55 rfl w1.heap.size 91 i1 _ 24 Tryz.underlying55 hj hy0 hy1 hy2 rfl _ _ _ rfl (own_carry E1.out.r2 (below1 _ _)) _ 1 (cutV x).cells rfl (src_RVl _ (cutV x) _ (by first | rfl | simp [World.setCell])) ?d3 ?d4 ?d5 ?_)
        case d3 => unfold maxLen; omega
        case d4 => omega
        case d5 => have := L2.out; simp; omega
        intro v2' W4 ha2
        have hst := (E1.out.carry (below1 _ _)).step2 ha2.row ha2.grown ha2.new
        obtain ⟨a2', c2', hv2⟩ := ha2.shape
        subst hv2
        have HST : Hid (Ev w1.heap.size w1 W4 (w.heap.size + 1 + 1 + 1) pay (.slice a1' (i + 1) c1') (.slice a2' (i + 1) c2') (i + 1) (i + 1) (((t.take (i + 1)).map cutV).flatMap Vl.cells) (((t.take (i + 1)).map cutV).flatMap Vl.cells)) := by
          show Ev _ _ _ _ _ _ _ _ _ _ _
          rw [SN.out, List.map_take]; exact hst
        clear hst ha2 E1 L2 m0 m1 ml z0 z1 zf zl hsz
        go_wp2
        go_roundg (6 - (i + 1))
        case measure => omega
        case rel => exact ⟨i + 1, by go_num, by omega, by omega, rfl, ⟨_, _, rfl⟩, _, _, HST⟩
      · obtain rfl : i = 6 := by omega
        have HE : Hid (((t.take 6).map cutV).length = 6) := (by have := HL.out; simp; omega : ((t.take 6).map cutV).length = 6)
        have b1 := HX.out.2
        have q1 := (R.out.bel.block _ (by have := HX.out.1; omega)).trans x1
        have r0 := blk_cell (j := 0) q1 (by simp)
        have r1 := blk_cell (j := 1) q1 (by simp)
        simp at r0 r1
        have rf : wr.frozen? ⟨w.heap.size + 1, 0, none⟩ = false := by simp [World.frozen?, q1]
        have rf1 : wr.frozen? ⟨w.heap.size + 1, 1, none⟩ = false := by simp [World.frozen?, q1]
        have rl : w.heap.size + 1 < wr.heap.size := lt_of_block q1
        go_wp2
        refine bodyPost_ret (v := .tuple #[.agg #[.slice a1 6 c1, .string pay], .slice a2 6 c2]) (by simp [results, Tryz.results16, go_sem, r0, r1]) rfl ⟨_, _, rfl, ?_⟩
        rw [HE.out]
        exact R.out.done (by omega) (by have := HX.out.1; omega) (by have := HX.out.1; omega) b1
    · obtain rfl : i = len := by omega
      have HE : Hid (t.take i = t.take 6 ∧ ((t.take 6).map cutV).length = i) := (by
        have := HL.out
        refine ⟨?_, by simp; omega⟩
        rw [List.take_of_length_le (by omega), List.take_of_length_le (by omega)] : t.take i = t.take 6 ∧ ((t.take 6).map cutV).length = i)
      have b1 := HX.out.2
      have q1 := (R.out.bel.block _ (by have := HX.out.1; omega)).trans x1
      have r0 := blk_cell (j := 0) q1 (by simp)
      have r1 := blk_cell (j := 1) q1 (by simp)
      simp at r0 r1
      have rf : wr.frozen? ⟨w.heap.size + 1, 0, none⟩ = false := by simp [World.frozen?, q1]
      have rf1 : wr.frozen? ⟨w.heap.size + 1, 1, none⟩ = false := by simp [World.frozen?, q1]
      have rl : w.heap.size + 1 < wr.heap.size := lt_of_block q1
      go_wp2
      refine bodyPost_ret (v := .tuple #[.agg #[.slice a1 i c1, .string pay], .slice a2 i c2]) (by simp [results, Tryz.results16, go_sem, r0, r1]) rfl ⟨_, _, rfl, ?_⟩
      rw [HE.out.2, ← HE.out.1]
      exact R.out.done (by omega) (by have := HX.out.1; omega) (by have := HX.out.1; omega) b1
end Go.Proofs.YtkkbhkpeglcodaaGreatDoor

/- A schema and a filter of the call's own: what the laws of layer 8 carry. -/
namespace Go.Proofs.YtkkbhkpeglcodaaGreatDoor
open Go.ChangeShapes Go.WideShapes Go.ChangeAt Go.RowKit
set_option linter.unusedVariables false

theorem gz_cutA (t : List At) : ∀ i, i < ((t.take 6).map cutA).length → (((t.take 6).map cutA).getD i at0).name.size ≤ 20 := fun i hi => by
  have hi' : i < 6 ∧ i < t.length := by simp at hi; omega
  have e : ((t.take 6).map cutA).getD i at0 = cutA t[i] := by simp [hi'.1, hi'.2]
  rw [e]
  exact cut_size t[i].name 20
theorem gz_cutV (t : List Vl) : ∀ i, i < ((t.take 6).map cutV).length → (((t.take 6).map cutV).getD i vl0).str.size ≤ 50 := fun i hi => by
  have hi' : i < 6 ∧ i < t.length := by simp at hi; omega
  have e : ((t.take 6).map cutV).getD i vl0 = cutV t[i] := by simp [hi'.1, hi'.2]
  rw [e]
  exact cut_size t[i].str 50
theorem gz_cutP (t : List Pd) : ∀ i, i < ((t.take 6).map cutP).length → (((t.take 6).map cutP).getD i pd0).str.size ≤ 50 ∧ (((t.take 6).map cutP).getD i pd0).name.size ≤ 20 := fun i hi => by
  have hi' : i < 6 ∧ i < t.length := by simp at hi; omega
  have e : ((t.take 6).map cutP).getD i pd0 = cutP t[i] := by simp [hi'.1, hi'.2]
  rw [e]
  exact ⟨cut_size t[i].str 50, cut_size t[i].name 20⟩
/-- The schema and the filter lie where they lay, the table too. -/
structure Fm (w W : World) (sl gl : Value) (L : List At) (G : List Pd) : Prop where
  at_ : AtIn W sl L
  pd : PdIn W gl G
  env : GEnv W
  bel : Below w.heap.size w W
theorem Fm.below {w W W' : World} {sl gl : Value} {L : List At} {G : List Pd} (h : Fm w W sl gl L G) (b : Below W.heap.size W W') : Fm w W' sl gl L G :=
  ⟨h.at_.below b, h.pd.below b, h.env.below b, h.bel.trans (b.mono h.bel.size)⟩
/-- What a region that asks for a predicate's range reads, in every world that has grown. -/
structure FamR (W : World) {ι : Type} (F : ι → World) (ga gp k i : Nat) (x : At) (p : Pd) (sl : Value) (L : List At) : Prop where
  a0 : ∀ j, (F j).cell? ⟨ga, k * 4, none⟩ = some (.string x.name)
  a1 : ∀ j, (F j).cell? ⟨ga, k * 4 + 1, none⟩ = some (.int .i64 x.kind)
  a2 : ∀ j, (F j).cell? ⟨ga, k * 4 + 2, none⟩ = some (.int .i64 x.mn)
  a3 : ∀ j, (F j).cell? ⟨ga, k * 4 + 3, none⟩ = some (.int .i64 x.mx)
  p0 : ∀ j, (F j).cell? ⟨gp, i * 5, none⟩ = some (.string p.name)
  p1 : ∀ j, (F j).cell? ⟨gp, i * 5 + 1, none⟩ = some (.int .i64 p.op)
  p2 : ∀ j, (F j).cell? ⟨gp, i * 5 + 2, none⟩ = some (.int .i64 p.lo)
  p3 : ∀ j, (F j).cell? ⟨gp, i * 5 + 3, none⟩ = some (.int .i64 p.hi)
  p4 : ∀ j, (F j).cell? ⟨gp, i * 5 + 4, none⟩ = some (.string p.str)
  ai : ∀ j, AtIn (F j) sl L
  st : ∃ j, { W with drawn := W.drawn + 1 } = F j
  be : ∀ j, Below W.heap.size W (F j)
  cl : ∀ j W', Below W.heap.size (F j) W' → ∃ j', W' = F j'
theorem fam_r {w W : World} {sl gl : Value} {L : List At} {G : List Pd} (h : Fm w W sl gl L G) (i k : Nat) (hi : i < G.length) (hk : k < L.length) :
    ∃ (ga gp ca cg : Nat) (ι : Type) (F : ι → World), Nonempty ι ∧ sl = .slice (some ⟨ga, 0, none⟩) L.length ca ∧ gl = .slice (some ⟨gp, 0, none⟩) G.length cg ∧ FamR W F ga gp k i (L.getD k at0) (G.getD i pd0) sl L := by
  obtain ⟨aa, ca, rfl, _⟩ := h.at_.shape
  obtain ⟨ap, cg, rfl, _⟩ := h.pd.shape
  obtain ⟨ga, rfl, hga, hca, k0, k1, k2, k3⟩ := h.at_.row k hk
  obtain ⟨gp, rfl, hgp, hcp, q0, q1, q2, q3, q4⟩ := h.pd.row i hi
  obtain ⟨ι, F, hne, hF0, hFb, hFc⟩ := grown_fam W
  exact ⟨ga, gp, ca, cg, ι, F, hne, rfl, rfl, fun j => cell_grown k0 (hFb j), fun j => cell_grown k1 (hFb j), fun j => cell_grown k2 (hFb j), fun j => cell_grown k3 (hFb j), fun j => cell_grown q0 (hFb j), fun j => cell_grown q1 (hFb j), fun j => cell_grown q2 (hFb j), fun j => cell_grown q3 (hFb j), fun j => cell_grown q4 (hFb j), fun j => h.at_.below (hFb j), hF0, hFb, hFc⟩
end Go.Proofs.YtkkbhkpeglcodaaGreatDoor

/- Unlike groups have unlike names. No program's walk in sight. -/
namespace Go.Proofs.YtkkbhkpeglcodaaGreatDoor
open Go.RowKit
set_option linter.unusedVariables false

theorem split_first {c : UInt8} : ∀ {p q r s : List UInt8}, c ∉ p → c ∉ q → p ++ c :: r = q ++ c :: s → p = q ∧ r = s
  | [], [], r, s, _, _, h => by simpa using h
  | [], b :: q, r, s, _, hq, h => by
    simp at h
    exact absurd h.1 (fun e => hq (by simp [e]))
  | a :: p, [], r, s, hp, _, h => by
    simp at h
    exact absurd h.1 (fun e => hp (by simp [e]))
  | a :: p, b :: q, r, s, hp, hq, h => by
    simp at h
    obtain ⟨rfl, h⟩ := h
    have := split_first (fun hh => hp (by simp [hh])) (fun hh => hq (by simp [hh])) h
    exact ⟨by rw [this.1], this.2⟩
def valD (l : List UInt8) : Nat := l.foldl (fun acc c => 10 * acc + (c.toNat - 48)) 0
theorem dig_toNat (u : Nat) (h : u < 10) : (UInt8.ofNat (48 + u)).toNat = 48 + u := by
  rw [UInt8.toNat_ofNat']; omega
theorem valD_dec : ∀ (k u : Nat), u ≤ k → valD (Lib.decDigits u) = u := by
  intro k
  induction k with
  | zero => intro u h; obtain rfl : u = 0 := by omega
            rw [Lib.decDigits_one (by omega)]; decide
  | succ k ih =>
    intro u h
    by_cases h1 : u < 10
    · rw [Lib.decDigits_one h1]
      simp only [valD, List.foldl_cons, List.foldl_nil, dig_toNat u h1]; omega
    · rw [Lib.decDigits, dif_neg h1]
      have := ih (u / 10) (by omega)
      unfold valD at *
      rw [List.foldl_append, this]
      simp only [List.foldl_cons, List.foldl_nil, dig_toNat (u % 10) (by omega)]
      omega
theorem dec_inj {u v : Nat} (h : Lib.decDigits u = Lib.decDigits v) : u = v := by
  rw [← valD_dec u u (Nat.le_refl _), h, valD_dec v v (Nat.le_refl _)]
theorem dec_no46 : ∀ (k u : Nat), u ≤ k → (46 : UInt8) ∉ Lib.decDigits u := by
  intro k
  induction k with
  | zero => intro u h; obtain rfl : u = 0 := by omega
            rw [Lib.decDigits_one (by omega)]; decide
  | succ k ih =>
    intro u h hm
    have hne : ∀ d, d < 10 → (46 : UInt8) ≠ UInt8.ofNat (48 + d) := fun d hd e => by
      have := congrArg UInt8.toNat e
      rw [dig_toNat d hd] at this
      have h46 : (46 : UInt8).toNat = 46 := rfl
      omega
    by_cases h1 : u < 10
    · rw [Lib.decDigits_one h1] at hm
      exact hne u h1 (by simpa using hm)
    · rw [Lib.decDigits, dif_neg h1, List.mem_append] at hm
      rcases hm with hm | hm
      · exact ih (u / 10) (by omega) hm
      · exact hne (u % 10) (by omega) (by simpa using hm)
theorem dec_list (n : Nat) : (dec n).data.toList = Lib.decDigits n := by
  unfold dec Lib.itoa
  rw [if_neg (by omega), Int.toNat_natCast]
theorem gname_list (a : ByteArray) (l i : Nat) : (gname a ⟨l, i⟩).data.toList = a.data.toList ++ 46 :: (Lib.decDigits l ++ 46 :: Lib.decDigits i) := by
  unfold gname
  simp only [ByteArray.data_append, Array.toList_append, dec_list]
  simp
theorem name_no46 {a : ByteArray} (h : NameOk a) : (46 : UInt8) ∉ a.data.toList := by
  intro hm
  obtain ⟨i, hi, e⟩ := List.mem_iff_getElem.1 hm
  have hi' : i < a.size := by simpa using hi
  have hc := h.ch i hi'
  have e' : a[i] = 46 := by rw [← e]; rfl
  rw [e'] at hc
  rcases hc with hc | ⟨_, hc⟩
  · exact absurd hc (by unfold letterP; decide)
  · exact absurd hc (by unfold digitP; decide)
theorem gname_inj {a b : ByteArray} {l i m j : Nat} (ha : NameOk a) (hb : NameOk b) (h : gname a ⟨l, i⟩ = gname b ⟨m, j⟩) : a = b ∧ l = m ∧ i = j := by
  have h1 : (gname a ⟨l, i⟩).data.toList = (gname b ⟨m, j⟩).data.toList := by rw [h]
  rw [gname_list, gname_list] at h1
  obtain ⟨e1, e2⟩ := split_first (name_no46 ha) (name_no46 hb) h1
  obtain ⟨e3, e4⟩ := split_first (dec_no46 l l (Nat.le_refl _)) (dec_no46 m m (Nat.le_refl _)) e2
  refine ⟨?_, dec_inj e3, dec_inj e4⟩
  cases a; cases b
  simp at e1
  simp [e1]
end Go.Proofs.YtkkbhkpeglcodaaGreatDoor

/- strings.Cut at one byte; group.Read of a group's name. -/
namespace Go.Proofs.YtkkbhkpeglcodaaGreatDoor
open Go.ChangeShapes Go.WideShapes Go.ChangeAt Go.RowKit
set_option linter.unusedVariables false

theorem dec_digit : ∀ (k u : Nat), u ≤ k → ∀ c ∈ Lib.decDigits u, 48 ≤ c.toNat ∧ c.toNat ≤ 57 := by
  intro k
  induction k with
  | zero => intro u h c hc; obtain rfl : u = 0 := by omega
            rw [Lib.decDigits_one (by omega)] at hc
            obtain rfl := List.mem_singleton.1 hc; decide
  | succ k ih =>
    intro u h c hc
    by_cases h1 : u < 10
    · rw [Lib.decDigits_one h1] at hc
      obtain rfl := List.mem_singleton.1 hc
      rw [dig_toNat u h1]; omega
    · rw [Lib.decDigits, dif_neg h1, List.mem_append] at hc
      rcases hc with hc | hc
      · exact ih (u / 10) (by omega) c hc
      · obtain rfl := List.mem_singleton.1 hc
        rw [dig_toNat (u % 10) (by omega)]; omega
theorem parse_dec : ∀ (k u : Nat), u ≤ k → u < 1000000 → ∀ r, Lib.parseUint10 0 (Lib.decDigits u ++ r) = Lib.parseUint10 u r := by
  intro k
  induction k with
  | zero => intro u h _ r; obtain rfl : u = 0 := by omega
            rw [Lib.decDigits_one (by omega)]
            rfl
  | succ k ih =>
    intro u h hu r
    by_cases h1 : u < 10
    · rw [Lib.decDigits_one h1]
      show Lib.parseUint10 0 (UInt8.ofNat (48 + u) :: r) = _
      rw [Lib.parseUint10, dig_toNat u h1, if_pos (by omega), if_neg (by omega), if_neg (by omega)]
      congr 1; omega
    · rw [Lib.decDigits, dif_neg h1, List.append_assoc, ih (u / 10) (by omega) (by omega)]
      show Lib.parseUint10 (u / 10) (UInt8.ofNat (48 + u % 10) :: r) = _
      rw [Lib.parseUint10, dig_toNat (u % 10) (by omega), if_pos (by omega), if_neg (by omega), if_neg (by omega)]
      congr 1; omega
theorem atoi_dec (u : Nat) (h : u < 1000000) : Lib.atoiAll (Lib.decDigits u) = .ok (u : Int) := by
  have hp : Lib.parseUint10 0 (Lib.decDigits u) = .ok u := by
    have := parse_dec u u (Nat.le_refl _) h []
    rw [List.append_nil] at this
    rw [this]; rfl
  have hd := dec_digit u u (Nat.le_refl _)
  cases hl : Lib.decDigits u with
  | nil => rw [hl] at hp; simp [Lib.parseUint10] at hp
           have h0 : u = 0 := hp.symm
           subst h0
           rw [Lib.decDigits_one (by omega)] at hl; simp at hl
  | cons c r =>
    rw [hl] at hp hd
    have hc := hd c (by simp)
    unfold Lib.atoiAll
    simp only
    rw [if_neg (by omega)]
    have hm : Lib.parseMag (c :: r) = .ok u := by unfold Lib.parseMag; rw [if_neg (by simp)]; exact hp
    rw [hm]
    simp only
    rw [if_neg (by omega), if_neg (by omega), if_neg (by omega)]
theorem index_first : ∀ (p r : List UInt8) (c : UInt8), c ∉ p → Lib.indexByte (p ++ c :: r) c = (p.length : Int)
  | [], r, c, _ => by simp [Lib.indexByte]
  | b :: p, r, c, h => by
    have hb : (b == c) = false := by simpa using fun e => h (by simp [e])
    have ih := index_first p r c (fun hh => h (by simp [hh]))
    simp only [List.cons_append, Lib.indexByte, hb, ih]
    rw [if_neg (by simp)]
    have : ((p.length : Int) == -1) = false := by simp
    rw [this]; simp

set_option maxRecDepth 100000 in
set_option maxHeartbeats 1000000 in
theorem cutd_any (s : ByteArray) (p r : List UInt8) (w : World) (hs : s.data.toList = p ++ 46 :: r) (hp : (46 : UInt8) ∉ p) (hsz : s.size ≤ 1000000) :
    Calls Tryz.prog 25 #[.string s, .string ⟨#[46]⟩] w fun e w' => e = .returned (.tuple #[.string ⟨p.toArray⟩, .string ⟨r.toArray⟩, .bool true]) ∧ Below w.heap.size w w' := by
  have hix := fun W => Tryz.stringslite_Index_one s 46 W
  rw [hs, index_first p r 46 hp] at hix
  have HIX : Hid _ := hix
  have hlen : s.size = p.length + 1 + r.length := by
    have : s.data.toList.length = p.length + (r.length + 1) := by rw [hs]; simp
    have h2 : s.size = s.data.toList.length := by simp
    omega
  have e1 : s.extract 0 p.length = ⟨p.toArray⟩ := by
    apply ByteArray.ext
    apply Array.toList_inj.1
    rw [ByteArray.data_extract, Array.toList_extract, hs]
    simp
  have e2 : s.extract (p.length + 1) s.size = ⟨r.toArray⟩ := by
    apply ByteArray.ext
    apply Array.toList_inj.1
    rw [ByteArray.data_extract, Array.toList_extract, hs, hlen]
    simp
  have HE : Hid (s.extract 0 p.length = ⟨p.toArray⟩ ∧ s.extract (p.length + 1) s.size = ⟨r.toArray⟩) := ⟨e1, e2⟩
  have hpl : p.length < s.size := by omega
  have H51 : Calls Tryz.prog 55 #[.string s, .string ⟨#[46]⟩] w fun e w' => e = .returned (.tuple #[.string (s.extract 0 p.length), .string (s.extract (p.length + 1) s.size), .bool true]) ∧ Below w.heap.size w w' := by
    clear e1 e2 hs hp hix hlen
    generalize p.length = k at *
    have hk1 : ¬ ((k : Int) < 0) := by omega
    go_enter Tryz.func55, Tryz.ntmps55
    go_wp2_with fail
    refine Calls.mono (HIX.out _) ?_
    rintro e w' ⟨rfl, hw'⟩
    subst w'
    go_wp2_with fail
    go_quiet (fail)
    go_wp2
    exact bodyPost_ret (v := .tuple #[.string (s.extract 0 k), .string (s.extract (k + 1) s.size), .bool true]) (by simp [results, Tryz.results55, go_sem]) rfl ⟨rfl, dbeld _ _⟩
  rw [e1, e2] at H51
  have H : Hid _ := H51
  clear e1 e2 hs hp hix HIX hlen HE hpl H51
  go_enter Tryz.func25, Tryz.ntmps25
  go_wp2_with fail
  refine Calls.mono H.out ?_
  rintro e w1 ⟨rfl, b1⟩
  have HB : Hid (Below w.heap.size w w1) := b1
  clear b1
  go_wp2
  exact bodyPost_ret (v := .tuple #[.string ⟨p.toArray⟩, .string ⟨r.toArray⟩, .bool true]) (by simp [results, Tryz.results25, go_sem]) rfl ⟨rfl, HB.out⟩

theorem atoi_any (u : Nat) (w : World) (h : u < 1000000) : Calls Tryz.prog 26 #[.string ⟨(Lib.decDigits u).toArray⟩] w fun e w' => e = .returned (.tuple #[.int .i64 (u : Int), .nilIface]) ∧ Below w.heap.size w w' := by
  have hl : (Lib.decDigits u).length ≤ 20 := by
    rw [Lib.decDigits_length]
    have := nDigits_le 20 u (by have : (10 : Nat) ^ 20 = 100000000000000000000 := by decide
                                omega)
    omega
  refine (Tryz.strconv_Atoi_ok ⟨(Lib.decDigits u).toArray⟩ (by show (Lib.decDigits u).toArray.size ≤ _; simp; omega) u (by simpa using atoi_dec u h) w).mono ?_
  rintro e w' ⟨rfl, hw⟩
  refine ⟨rfl, ?_⟩
  rcases hw with rfl | ⟨t, rfl⟩
  · exact Below.refl _ _
  · exact Lib.bytesWorld_below _ _ _

set_option maxRecDepth 100000 in
set_option maxHeartbeats 2000000 in
theorem read_of (a : ByteArray) (l i n : Nat) (w : World) (hE : GEnv w) (ha : NameOk a) (h1 : l ≤ n) (h2 : n ≤ 8) (h3 : i < 2 ^ l) :
    Calls Tryz.prog 6 #[.string (gname a ⟨l, i⟩), .int .i64 n] w fun e w' => e = .returned (.tuple #[.string a, .agg #[.int .i64 (l : Int), .int .i64 (i : Int)], .nilIface]) ∧ Below w.heap.size w w' := by
  have hgood : (Iv.mk l i).good n := Iv.good_of h1 h2 h3
  have hi256 : i ≤ 256 := Nat.le_trans (Nat.le_of_lt h3) (pow_le_256 (show l ≤ 8 by clear h3; omega))
  clear h3
  have hsz := gname_size a ⟨l, i⟩ (by unfold i64; simp; omega) (by unfold i64; simp; omega)
  have hah := ha.hi
  have HC1 : Hid _ := fun W => cutd_any (gname a ⟨l, i⟩) a.data.toList (Lib.decDigits l ++ 46 :: Lib.decDigits i) W (gname_list a l i) (name_no46 ha) (by omega)
  have hrs : (⟨(Lib.decDigits l ++ 46 :: Lib.decDigits i).toArray⟩ : ByteArray).size ≤ 1000000 := by
    have q1 := nDigits_le 20 l (by have : (10 : Nat) ^ 20 = 100000000000000000000 := by decide
                                   omega)
    have q2 := nDigits_le 20 i (by have : (10 : Nat) ^ 20 = 100000000000000000000 := by decide
                                   omega)
    rw [← Lib.decDigits_length] at q1 q2
    show (Lib.decDigits l ++ 46 :: Lib.decDigits i).toArray.size ≤ _
    simp; omega
  have HC2 : Hid _ := fun W => cutd_any ⟨(Lib.decDigits l ++ 46 :: Lib.decDigits i).toArray⟩ (Lib.decDigits l) (Lib.decDigits i) W (by simp) (dec_no46 l l (Nat.le_refl _)) hrs
  have HA1 : Hid _ := fun W => atoi_any l W (by omega)
  have HA2 : Hid _ := fun W => atoi_any i W (by omega)
  have HN0 := fun W => name_any a W (by unfold maxLen; omega)
  have HN : Hid (∀ W, Calls Tryz.prog 27 #[.string a] W fun e w' => e = .returned (.bool true) ∧ w' = W) := fun W => by
    refine (HN0 W).mono ?_
    rintro e w' ⟨⟨b, rfl, hb⟩, rfl⟩
    have : b = true := hb.2 ha
    subst this
    exact ⟨rfl, rfl⟩
  have HGD : Hid _ := fun W => good_yes ⟨l, i⟩ n W hgood
  have HNM : Hid _ := fun W (hE : GEnv W) => name_of a ⟨l, i⟩ W hE (by omega) (by unfold i64; simp; omega) (by unfold i64; simp; omega)
  have ea : (⟨a.data.toList.toArray⟩ : ByteArray) = a := by cases a; simp
  rw [ea] at HC1
  have HE : Hid (GEnv w) := hE
  clear hgood hE ha HN0 ea hrs hsz hah
  generalize gname a ⟨l, i⟩ = s at *
  generalize (⟨(Lib.decDigits l ++ 46 :: Lib.decDigits i).toArray⟩ : ByteArray) = s2 at *
  generalize (⟨(Lib.decDigits l).toArray⟩ : ByteArray) = sl at *
  generalize (⟨(Lib.decDigits i).toArray⟩ : ByteArray) = si at *
  go_enter Tryz.func6, Tryz.ntmps6
  go_wp2_with fail
  refine Calls.mono (HC1.out _) ?_
  rintro e W1 ⟨rfl, b1⟩
  have z0 := b1.block w.heap.size (by simp)
  rw [heap_alloc_new] at z0
  have B1 : Hid (Below w.heap.size w W1) := (dbel1 _ _).trans (b1.mono (by simp))
  have Z1 : Hid (W1.heap[w.heap.size]? = some (.cells #[.int .i64 0, .int .i64 0] 23 (0, 0)) ∧ w.heap.size < W1.heap.size) := ⟨z0, lt_of_block z0⟩
  clear b1 z0
  go_wp2_with fail
  refine Calls.mono (HC2.out _) ?_
  rintro e W2 ⟨rfl, b2⟩
  have B2 : Hid (Below w.heap.size w W2) := B1.out.trans (b2.mono B1.out.size)
  have Z2 : Hid (W2.heap[w.heap.size]? = some (.cells #[.int .i64 0, .int .i64 0] 23 (0, 0))) := (b2.block _ Z1.out.2).trans Z1.out.1
  clear b2 B1 Z1
  go_wp2_with fail
  refine Calls.mono (HA1.out _) ?_
  rintro e W3 ⟨rfl, b3⟩
  have B3 : Hid (Below w.heap.size w W3) := B2.out.trans (b3.mono B2.out.size)
  have Z3 : Hid (W3.heap[w.heap.size]? = some (.cells #[.int .i64 0, .int .i64 0] 23 (0, 0))) := (b3.block _ (lt_of_block Z2.out)).trans Z2.out
  clear b3 B2 Z2
  go_wp2_with fail
  refine Calls.mono (HA2.out _) ?_
  rintro e W4 ⟨rfl, b4⟩
  have B4 : Hid (Below w.heap.size w W4) := B3.out.trans (b4.mono B3.out.size)
  have Z4 : Hid (W4.heap[w.heap.size]? = some (.cells #[.int .i64 0, .int .i64 0] 23 (0, 0))) := (b4.block _ (lt_of_block Z3.out)).trans Z3.out
  clear b4 B3 Z3
  go_wp2_with fail
  refine Calls.mono (HN.out _) ?_
  rintro e W5 ⟨rfl, hw5⟩
  subst W5
  go_wp2_with fail
  refine Calls.mono (HGD.out _) ?_
  rintro e W6 ⟨rfl, b6⟩
  have k0 := b6.block W4.heap.size (by simp)
  rw [heap_alloc_new] at k0
  have hlt4 := lt_of_block Z4.out
  have z6 : W6.heap[w.heap.size]? = some (.cells #[.int .i64 0, .int .i64 0] 23 (0, 0)) := (b6.block _ (by simp; omega)).trans ((Below.heap_alloc _ _ _ hlt4).trans Z4.out)
  have B6 : Hid (Below w.heap.size w W6) := B4.out.trans (((dbel1 _ _).trans (b6.mono (by simp))).mono B4.out.size)
  have d0 := box_cell (j := 0) k0 (by simp)
  have d1 := box_cell (j := 1) k0 (by simp)
  simp at d0 d1
  have dl := lt_of_block k0
  have K6 : Hid (W6.heap[W4.heap.size]? = some (.cells #[.int .i64 (l : Int), .int .i64 (i : Int)] 23 (0, 0)) ∧ W6.heap[w.heap.size]? = some (.cells #[.int .i64 0, .int .i64 0] 23 (0, 0))) := ⟨k0, z6⟩
  have hE6 : Hid (GEnv W6) := HE.out.below B6.out
  clear b6 k0 z6 B4 Z4
  go_wp2_with fail
  refine Calls.mono (HNM.out _ hE6.out) ?_
  rintro e W7 ⟨rfl, b7⟩
  have B7 : Hid (Below w.heap.size w W7) := B6.out.trans (b7.mono B6.out.size)
  have k7 := (b7.block _ (lt_of_block K6.out.1)).trans K6.out.1
  have z7 := (b7.block _ (lt_of_block K6.out.2)).trans K6.out.2
  have e0 := box_cell (j := 0) k7 (by simp)
  have e1 := box_cell (j := 1) k7 (by simp)
  have f0 := box_cell (j := 0) z7 (by simp)
  have f1 := box_cell (j := 1) z7 (by simp)
  simp at e0 e1 f0 f1
  have ff : ∀ o, W7.frozen? ⟨w.heap.size, o, none⟩ = false := fun o => by simp [World.frozen?, z7]
  have el := lt_of_block k7
  have fl := lt_of_block z7
  clear b7 d0 d1 dl K6 k7 z7 B6 hE6
  go_wp2_with fail
  go_region
  all_goals
    go_wp2_with fail
    refine bodyPost_ret (v := .tuple #[.string a, .agg #[.int .i64 (l : Int), .int .i64 (i : Int)], .nilIface]) (by simp [results, Tryz.results6, go_sem, *]) rfl ⟨rfl, ?_⟩
    exact Below.trans ((B7.out.setCell (by simp) _).setCell (by simp) _) ⟨rfl, rfl, rfl, Nat.le_refl _, fun _ _ => rfl⟩
end Go.Proofs.YtkkbhkpeglcodaaGreatDoor

/- The document's names of groups: Name, Read by trying. -/
namespace Go.Proofs.YtkkbhkpeglcodaaGreatDoor
open Go.ChangeShapes Go.WideShapes Go.ChangeAt Go.RowKit
set_option linter.unusedVariables false

set_option maxRecDepth 100000 in
set_option maxHeartbeats 1000000 in
theorem rgname_any (a : ByteArray) (x : Iv) (w : World) (ha : a.size ≤ 1000000) (h1 : i64 x.lev) (h2 : i64 x.idx) :
    Calls Tryz.prog 10 #[.string a, .agg #[.int .i64 x.lev, .int .i64 x.idx]] w fun e w' => e = .returned (.string (gname a x)) ∧ Below w.heap.size w w' := by
  obtain ⟨W0, hW0⟩ : ∃ W0, W0 = w.alloc (.cells #[.int .i64 x.lev, .int .i64 x.idx] 29) := ⟨_, rfl⟩
  have hbw : Below w.heap.size w W0 := by rw [hW0]; exact dbel1 _ _
  have f0 : W0.cell? ⟨w.heap.size, 0, none⟩ = some (.int .i64 x.lev) := by rw [hW0]; simp
  have f1 : W0.cell? ⟨w.heap.size, 1, none⟩ = some (.int .i64 x.idx) := by rw [hW0]; simp
  obtain ⟨ι, F, _, hF0, hFb, hFc⟩ := grown_fam W0
  have F0 : ∀ i, (F i).cell? ⟨w.heap.size, 0, none⟩ = some (.int .i64 x.lev) := fun i => cell_grown f0 (hFb i)
  have F1 : ∀ i, (F i).cell? ⟨w.heap.size, 1, none⟩ = some (.int .i64 x.idx) := fun i => cell_grown f1 (hFb i)
  have HF : Hid ((∃ i, { W0 with drawn := W0.drawn + 1 } = F i) ∧ (∀ i, Below W0.heap.size W0 (F i)) ∧ (∀ i W, Below W0.heap.size (F i) W → ∃ j, W = F j)) := ⟨hF0, hFb, hFc⟩
  have HB0 : Hid (Below w.heap.size w W0) := hbw
  have HC1 : Hid (∀ i, Calls Tryz.prog 32 #[.int .i64 x.lev] (F i) fun e w' => e = .returned (.string (dec x.lev)) ∧ Below (F i).heap.size (F i) w') := fun i => digits_any x.lev _ h1
  have HC2 : Hid (∀ i, Calls Tryz.prog 32 #[.int .i64 x.idx] (F i) fun e w' => e = .returned (.string (dec x.idx)) ∧ Below (F i).heap.size (F i) w') := fun i => digits_any x.idx _ h2
  have s1 := dec_size x.lev h1
  have s2 := dec_size x.idx h2
  have HG : Hid (gname a x = a ++ ⟨#[46]⟩ ++ dec x.lev ++ ⟨#[46]⟩ ++ dec x.idx) := (rfl : gname a x = a ++ ⟨#[46]⟩ ++ dec x.lev ++ ⟨#[46]⟩ ++ dec x.idx)
  clear hF0 hFb hFc hbw f0 f1
  generalize dec x.lev = d1 at *
  generalize dec x.idx = d2 at *
  go_enter Tryz.func10, Tryz.ntmps10
  go_wp2_with fail
  rw [← hW0]
  refine wp_region_fam F HF.out.1 (by kernel_rfl) (by kernel_rfl) ?_
  repeat (go_big_quiet_step (first
    | (go_at_call_of 32 (Value.int .i64 x.lev); refine Calls.mono (HC1.out _) ?_; rintro e' w' ⟨hs, hb⟩; exact ⟨hs, HF.out.2.2 _ _ (hb.mono (HF.out.2.1 _).size)⟩)
    | (go_at_call_of 32 (Value.int .i64 x.idx); refine Calls.mono (HC2.out _) ?_; rintro e' w' ⟨hs, hb⟩; exact ⟨hs, HF.out.2.2 _ _ (hb.mono (HF.out.2.1 _).size)⟩)))
  refine wpQuiet_nil ?_
  rintro _ ⟨i, rfl⟩
  have BF := HB0.out.trans ((HF.out.2.1 i).mono HB0.out.size)
  go_wp2
  go_ret
  exact ⟨by rw [HG.out]; rfl, BF⟩
/-- A text that is a group's name. -/
def GName (s : ByteArray) (L : Int) : Prop := ∃ (a : ByteArray) (l i n : Nat), L = n ∧ NameOk a ∧ l ≤ n ∧ n ≤ 8 ∧ i < 2 ^ l ∧ gname a ⟨l, i⟩ = s
theorem first_of {s a : ByteArray} {k l i : Nat} (ha : NameOk a) (h : gname a ⟨l, i⟩ = s) (hk : ∀ j (hj : j < s.size), j < k → s[j] ≠ 46) (hks : k ≤ s.size) (hend : ∀ hj : k < s.size, s[k] = 46) : s.extract 0 k = a := by
  have hl := gname_list a l i
  rw [h] at hl
  have hsz : s.size = a.size + 1 + (Lib.decDigits l ++ 46 :: Lib.decDigits i).length := by
    have : s.data.toList.length = a.data.toList.length + ((Lib.decDigits l ++ 46 :: Lib.decDigits i).length + 1) := by rw [hl]; simp
    have h2 : s.size = s.data.toList.length := by simp
    have h3 : a.size = a.data.toList.length := by simp
    omega
  have hget : ∀ j (hj : j < s.size), s[j] = s.data.toList[j]'(by simpa using hj) := fun j hj => rfl
  have hat : ∀ hj : a.size < s.size, s[a.size] = 46 := fun hj => by
    rw [hget]
    have e : s.data.toList[a.size]? = some 46 := by rw [hl, List.getElem?_append_right (by simp)]; simp
    rw [List.getElem?_eq_getElem (by simpa using hj)] at e
    exact Option.some.inj e
  have hka : k = a.size := by
    rcases Nat.lt_trichotomy k a.size with q | q | q
    · exfalso
      have hj : k < s.size := by omega
      have e1 := hend hj
      rw [hget] at e1
      have e2 : s.data.toList[k]? = a.data.toList[k]? := by rw [hl, List.getElem?_append_left (by simpa using q)]
      rw [List.getElem?_eq_getElem (by simpa using hj), List.getElem?_eq_getElem (by simpa using q), e1] at e2
      exact name_no46 ha ((Option.some.inj e2) ▸ List.getElem_mem _)
    · exact q
    · exact absurd (hat (by omega)) (hk a.size (by omega) q)
  subst hka
  apply ByteArray.ext
  apply Array.toList_inj.1
  rw [ByteArray.data_extract, Array.toList_extract, hl]
  simp
def RdRef (e : Ending) (s : ByteArray) (L : Int) : Prop :=
  (∃ (a : ByteArray) (l i n : Nat), L = n ∧ NameOk a ∧ l ≤ n ∧ n ≤ 8 ∧ i < 2 ^ l ∧ gname a ⟨l, i⟩ = s ∧ e = .returned (.tuple #[.string a, .agg #[.int .i64 l, .int .i64 i], .bool true])) ∨
  (¬ GName s L ∧ e = .returned (.tuple #[.string ⟨#[]⟩, .agg #[.int .i64 0, .int .i64 0], .bool false]))

set_option maxRecDepth 100000 in
set_option maxHeartbeats 4000000 in
theorem rread_any (s : ByteArray) (L : Int) (w : World) (hs : s.size ≤ 1000) :
    Calls Tryz.prog 7 #[.string s, .int .i64 L] w fun e w' => RdRef e s L ∧ Below w.heap.size w w' := by
  obtain ⟨W0, hW0⟩ : ∃ W0, W0 = w.alloc (.cells #[.int .i64 0, .int .i64 0] 29) := ⟨_, rfl⟩
  have HZ : Hid (W0.heap[w.heap.size]? = some (.cells #[.int .i64 0, .int .i64 0] 29 (0, 0)) ∧ Below w.heap.size w W0) := by
    rw [hW0]; exact ⟨heap_alloc_new w _, dbel1 _ _⟩
  go_enter Tryz.func7, Tryz.ntmps7
  go_wp2_with fail
  rw [← hW0]
  clear hW0
  go_loopg [7] s.size (fun kx s7 wr => ∃ k : Nat, s7 = .int .i64 k ∧ k ≤ s.size ∧ kx = s.size - k ∧ W0 = wr ∧ Hid (∀ j (hj : j < s.size), j < k → s[j] ≠ 46))
  case atStart => exact ⟨0, rfl, Nat.zero_le _, rfl, rfl, (fun j _ h => absurd h (Nat.not_lt_zero _) : ∀ j (hj : j < s.size), j < 0 → s[j] ≠ 46)⟩
  case round =>
    obtain ⟨k, rfl, hk, rfl, rfl, HK⟩ := hrel
    by_cases hgo : ∃ hj : k < s.size, s[k] ≠ 46
    · obtain ⟨hj, hne⟩ := hgo
      have HK2 : Hid (∀ j (hj : j < s.size), j < k + 1 → s[j] ≠ 46) := fun j hj' hjk => by
        by_cases e : j = k
        · subst e; exact hne
        · exact HK.out j hj' (by omega)
      have hne2 : ¬ (s[k].toNat : Int) = 46 := fun e => hne (UInt8.toNat_inj.1 (by have : (46 : UInt8).toNat = 46 := rfl
                                                                                   omega))
      have hne3 : ((s[k].toNat : Int) == 46) = false := by simpa using hne2
      clear hne
      go_wp2
      go_roundg (s.size - (k + 1))
      case measure => omega
      case rel => exact ⟨k + 1, by go_num, by omega, rfl, rfl, HK2⟩
    · have HEND : Hid (∀ hj : k < s.size, s[k] = 46) := fun hj => Classical.byContradiction fun h => hgo ⟨hj, h⟩
      have HNX : Hid (∀ a l i, NameOk a → gname a ⟨(l : Nat), (i : Nat)⟩ = s → s.extract 0 k = a) := fun a l i ha h => first_of ha h HK.out hk HEND.out
      have hend2 : (¬ k < s.size) ∨ (∃ hj : k < s.size, (s[k].toNat : Int) = 46) := by
        by_cases hj : k < s.size
        · refine Or.inr ⟨hj, ?_⟩
          have := HEND.out hj
          rw [this]; rfl
        · exact Or.inl hj
      have hasz : (s.extract 0 k).size ≤ 1000 := by simp; omega
      have HRN : Hid _ := fun W => rname_any (s.extract 0 k) W (by unfold maxLen; omega)
      have hL8 : Hid (¬ (0 ≤ L ∧ L ≤ 8) → ¬ GName s L) := fun h ⟨a, l, i, n, h1, _, _, h4, _, _⟩ => h (by omega)
      clear HK HEND hgo
      rcases hend2 with hj | ⟨hj, he⟩
      all_goals
        go_wp2_with fail
        refine Calls.mono (HRN.out _) ?_
        rintro e W1 ⟨⟨b, rfl, hb⟩, hw1⟩
        subst W1
        cases b with
        | false =>
          have HNO : Hid (¬ GName s L) := fun ⟨a, l, i, n, h1, h2, _, _, _, h6⟩ => by
            have e := HNX.out a l i h2 h6
            rw [e] at hb
            exact absurd (hb.2 h2) (by simp)
          have z7 := HZ.out.1
          have f0 := box_cell (j := 0) z7 (by simp)
          have f1 := box_cell (j := 1) z7 (by simp)
          have ff : ∀ o, W0.frozen? ⟨w.heap.size, o, none⟩ = false := fun o => by simp [World.frozen?, z7]
          have fl := lt_of_block z7
          simp at f0 f1
          clear z7 hb HNX
          go_wp2_with fail
          refine bodyPost_ret (v := .tuple #[.string ⟨#[]⟩, .agg #[.int .i64 0, .int .i64 0], .bool false]) (by simp [results, Tryz.results7, go_sem, *]) rfl ⟨Or.inr ⟨HNO.out, rfl⟩, ?_⟩
          exact (HZ.out.2.setCell (by simp) _).setCell (by simp) _
        | true =>
          have HNM : Hid (NameOk (s.extract 0 k)) := hb.1 rfl
          clear hb HRN
          by_cases hLv : 0 ≤ L ∧ L ≤ 8
          · obtain ⟨n, rfl⟩ : ∃ n : Nat, L = n := ⟨L.toNat, by omega⟩
            have hn : n ≤ 8 := by omega
            clear hLv hL8
            have HPW : Hid (∀ l : Nat, l ≤ 8 → ∀ W, Calls Tryz.prog 30 #[.int .i64 l] W fun e w' => e = .returned (.int .i64 ((2 ^ l : Nat) : Int)) ∧ w' = W) := fun l hl W => power_any l W (by omega)
            have HGN : Hid (∀ (l i : Nat), l ≤ 8 → i ≤ 256 → ∀ W, Calls Tryz.prog 10 #[.string (s.extract 0 k), .agg #[.int .i64 l, .int .i64 i]] W fun e w' => e = .returned (.string (gname (s.extract 0 k) ⟨l, i⟩)) ∧ Below W.heap.size W w') := fun l i hl hi W => rgname_any (s.extract 0 k) ⟨l, i⟩ W (by omega) (by unfold i64; simp; omega) (by unfold i64; simp; omega)
            obtain ⟨a, hax⟩ : ∃ a, s.extract 0 k = a := ⟨_, rfl⟩
            rw [hax] at HNX hasz HNM HGN
            go_wp2_with fail
            go_loopg [8] (n + 1) (fun kx s8 wr => ∃ l : Nat, s8 = .int .i64 l ∧ l ≤ n + 1 ∧ kx = n + 1 - l ∧ Hid (Below W0.heap.size W0 wr) ∧ Hid (∀ l' i', l' < l → i' < 2 ^ l' → gname a ⟨(l' : Nat), (i' : Nat)⟩ ≠ s))
            case atStart => exact ⟨0, rfl, Nat.zero_le _, rfl, (Below.refl _ _ : Below W0.heap.size W0 W0), (fun l' _ h => absurd h (Nat.not_lt_zero _) : ∀ l' i', l' < 0 → i' < 2 ^ l' → gname a ⟨(l' : Nat), (i' : Nat)⟩ ≠ s)⟩
            case round =>
              obtain ⟨l, rfl, hl, rfl, HB, HNE⟩ := hrel
              by_cases hln : l ≤ n
              · have hp256 := pow_le_256 (show l ≤ 8 by omega)
                have HPl : Hid _ := HPW.out l (by omega)
                obtain ⟨P, hP⟩ : ∃ P : Nat, P = 2 ^ l := ⟨_, rfl⟩
                have HP : Hid (P = 2 ^ l) := hP
                rw [← hP] at hp256 HPl
                clear hP
                go_wp2_with fail
                rename World => wq
                go_loopg [9] P (fun kx s9 wr => ∃ i : Nat, s9 = .int .i64 i ∧ i ≤ P ∧ kx = P - i ∧ Hid (Below W0.heap.size W0 wr) ∧ Hid (∀ i', i' < i → gname a ⟨l, (i' : Nat)⟩ ≠ s))
                case atStart => exact ⟨0, rfl, Nat.zero_le _, rfl, HB, (fun i' h => absurd h (Nat.not_lt_zero _) : ∀ i', i' < 0 → gname a ⟨l, (i' : Nat)⟩ ≠ s)⟩
                case round =>
                  obtain ⟨i, rfl, hi, rfl, HB2, HNI⟩ := hrel
                  by_cases hip : i < P
                  · have HGl : Hid _ := HGN.out l i (by omega) (by omega)
                    go_wp2_with fail
                    refine Calls.mono (HPl.out _) ?_
                    rintro e W5 ⟨rfl, hw5⟩
                    subst W5
                    go_wp2_with fail
                    refine Calls.mono (HGl.out _) ?_
                    rintro e W6 ⟨rfl, b6⟩
                    have HB6 : Hid (Below W0.heap.size W0 W6) := HB2.out.trans (b6.mono HB2.out.size)
                    clear b6
                    by_cases hy : gname a ⟨l, i⟩ = s
                    · have HY : Hid (gname a ⟨l, i⟩ = s) := hy
                      rw [hy]
                      have z7 := (HB6.out.block w.heap.size (lt_of_block HZ.out.1)).trans HZ.out.1
                      have f0 := box_cell (j := 0) z7 (by simp)
                      have f1 := box_cell (j := 1) z7 (by simp)
                      have ff : ∀ o, W6.frozen? ⟨w.heap.size, o, none⟩ = false := fun o => by simp [World.frozen?, z7]
                      have fl := lt_of_block z7
                      simp at f0 f1
                      clear z7 hy
                      go_wp2_with fail
                      refine bodyPost_ret (v := .tuple #[.string a, .agg #[.int .i64 l, .int .i64 i], .bool true]) (by simp [results, Tryz.results7, go_sem, *]) rfl ⟨Or.inl ⟨a, l, i, n, rfl, HNM.out, hln, hn, by rw [← HP.out]; exact hip, HY.out, rfl⟩, ?_⟩
                      exact ((HZ.out.2.trans (HB6.out.mono HZ.out.2.size)).setCell (by simp) _).setCell (by simp) _
                    · have HNI2 : Hid (∀ i', i' < i + 1 → gname a ⟨l, (i' : Nat)⟩ ≠ s) := fun i' h' => by
                        by_cases e : i' = i
                        · subst e; exact hy
                        · exact HNI.out i' (by omega)
                      generalize gname a ⟨l, i⟩ = t at hy ⊢
                      have hx1 : t.toList ≠ s.toList := fun h => hy (toList_inj.1 h)
                      have hx2 : (t.toList == s.toList) = false := by simpa using hx1
                      clear hy
                      go_wp2_with fail
                      go_roundg (P - (i + 1))
                      case measure => omega
                      case rel => exact ⟨i + 1, by go_num, by omega, rfl, HB6, HNI2⟩
                  · have HNE2 : Hid (∀ l' i', l' < l + 1 → i' < 2 ^ l' → gname a ⟨(l' : Nat), (i' : Nat)⟩ ≠ s) := fun l' i' h' hi' => by
                      by_cases e : l' = l
                      · subst e
                        exact HNI.out i' (by have := HP.out; omega)
                      · exact HNE.out l' i' (by omega) hi'
                    go_wp2_with fail
                    refine Calls.mono (HPl.out _) ?_
                    rintro e W5 ⟨rfl, hw5⟩
                    subst W5
                    go_wp2_with fail
                    go_roundg (n + 1 - (l + 1))
                    case measure => omega
                    case rel => exact ⟨l + 1, by go_num, by omega, rfl, HB2, HNE2⟩
              · have HNO : Hid (¬ GName s n) := fun ⟨a', l', i', n', h1, h2, h3, h4, h5, h6⟩ => by
                  have e := HNX.out a' l' i' h2 h6
                  subst e
                  obtain rfl : n = n' := by omega
                  exact HNE.out l' i' (by omega) h5 h6
                have z7 := (HB.out.block w.heap.size (lt_of_block HZ.out.1)).trans HZ.out.1
                have f0 := box_cell (j := 0) z7 (by simp)
                have f1 := box_cell (j := 1) z7 (by simp)
                have ff : ∀ o, wr.frozen? ⟨w.heap.size, o, none⟩ = false := fun o => by simp [World.frozen?, z7]
                have fl := lt_of_block z7
                simp at f0 f1
                clear z7
                go_wp2_with fail
                refine bodyPost_ret (v := .tuple #[.string ⟨#[]⟩, .agg #[.int .i64 0, .int .i64 0], .bool false]) (by simp [results, Tryz.results7, go_sem, *]) rfl ⟨Or.inr ⟨HNO.out, rfl⟩, ?_⟩
                exact ((HZ.out.2.trans (HB.out.mono HZ.out.2.size)).setCell (by simp) _).setCell (by simp) _
          · have HNO : Hid (¬ GName s L) := hL8.out hLv
            have z7 := HZ.out.1
            have f0 := box_cell (j := 0) z7 (by simp)
            have f1 := box_cell (j := 1) z7 (by simp)
            have ff : ∀ o, W0.frozen? ⟨w.heap.size, o, none⟩ = false := fun o => by simp [World.frozen?, z7]
            have fl := lt_of_block z7
            simp at f0 f1
            clear z7 HNX hL8
            rcases (show L < 0 ∨ (¬ L < 0 ∧ 8 < L) by omega) with h8 | ⟨h8, h9⟩
            all_goals
              clear hLv
              go_wp2_with fail
              refine bodyPost_ret (v := .tuple #[.string ⟨#[]⟩, .agg #[.int .i64 0, .int .i64 0], .bool false]) (by simp [results, Tryz.results7, go_sem, *]) rfl ⟨Or.inr ⟨HNO.out, rfl⟩, ?_⟩
              exact (HZ.out.2.setCell (by simp) _).setCell (by simp) _
end Go.Proofs.YtkkbhkpeglcodaaGreatDoor

/- wigwagref07.Good, Has, Same; wigwaglaw07.told. -/
namespace Go.Proofs.YtkkbhkpeglcodaaGreatDoor
open Go.ChangeShapes Go.WideShapes Go.ChangeAt Go.RowKit
set_option linter.unusedVariables false

theorem Tryz.infoRIv : (Tryz.prog.info? 29).map (fun i => (i.zero, i.size, i.bytes)) = some (some (.agg #[.int .i64 0, .int .i64 0]), 2, 16) := by kernel_rfl
theorem src_RIv (w : World) (q : Iv) (x : Nat) (hx : x = w.heap.size) :
    Src Tryz.prog 2 103 (.slice (some ⟨x, 0, none⟩) 1 1) 1 q.cells (w.alloc (.cells #[.int .i64 q.lev, .int .i64 q.idx] 29)) :=
  Src.ofSlice _ Tryz.underlying103 _ 1 1 _ rfl (fun j u hu => by
    subst hx
    have := World.news_of_block (cs := #[.int .i64 q.lev, .int .i64 q.idx]) (t := 29) (fr := (0, 0)) (heap_alloc_new w _) j u (by simpa [Iv.cells] using hu)
    exact this) (by simp [Iv.cells, Value.oneCell'])
/-- A row of the call's own, as what is appended. -/
theorem src_own {w : World} {B : Nat} {e : TypeId} {v : Value} {us : List Iv} (h : w.ownsRow B e 2 v us.length (us.flatMap Iv.cells)) : Src Tryz.prog 2 103 v us.length (us.flatMap Iv.cells) w := by
  have h1 : ∀ u ∈ us.flatMap Iv.cells, u.oneCell' = true := by
    intro u hu
    obtain ⟨x, _, hx⟩ := List.mem_flatMap.1 hu
    simp [Iv.cells] at hx
    rcases hx with rfl | rfl <;> rfl
  rcases h.2 with ⟨rfl, h0⟩ | ⟨g, cap, cur, hv, hb, hg, hnc, _⟩
  · have hu : us = [] := List.eq_nil_of_length_eq_zero h0
    subst hu
    exact Src.ofNil _ Tryz.underlying103 0
  · have hc := h.cells (g := g) (by rw [hv]; rfl)
    rw [hv]
    exact Src.ofSlice _ Tryz.underlying103 _ _ _ _ h.1 hc h1
theorem IvRow.made (T : TypeId) (w : World) : IvRow T w (w.alloc (.cells #[] T)) (.slice (some ⟨w.heap.size, 0, none⟩) 0 0) [] :=
  ⟨World.ownsRow_made w #[] 0 (Nat.le_refl _) (Nat.zero_le _) rfl, dbel1 _ _⟩

set_option maxHeartbeats 1000000 in
theorem rgood_any (x : Iv) (L : Int) (w : World) :
    Calls Tryz.prog 72 #[.agg #[.int .i64 x.lev, .int .i64 x.idx], .int .i64 L] w fun e w' => e = .returned (.bool (x.goodB L)) ∧ Below w.heap.size w w' := by
  obtain ⟨l, i⟩ := x
  by_cases g0 : 0 ≤ L
  · by_cases g1 : L < 9
    · by_cases h1 : 0 ≤ l
      · by_cases h2 : l ≤ L
        · by_cases h3 : 0 ≤ i
          · obtain ⟨n, rfl⟩ : ∃ n : Nat, l = n := ⟨l.toNat, by omega⟩
            have HP : Hid _ := fun W => power_any n W (by omega)
            have HG : Hid ((Iv.mk n i).goodB L = decide (i < ((2 ^ n : Nat) : Int))) := (by simp only [Iv.goodB, Iv.good, Int.toNat_natCast, powI]; exact decide_eq_decide.2 ⟨fun h => h.2.2.2.2.2, fun h => ⟨g0, by omega, by omega, by omega, by omega, h⟩⟩ : (Iv.mk n i).goodB L = decide (i < ((2 ^ n : Nat) : Int)))
            rw [HG.out]
            generalize 2 ^ n = P at *
            go_enter Tryz.func72, Tryz.ntmps72
            go_wp2_with fail
            go_quiet ((go_at_call 30; exact Calls.quiet_of_same (HP.out _)))
            go_wp2
            go_ret
            exact ⟨by refine ret_b ?_; simp, dbel1d _ _ _⟩
          · have hd : decide (0 ≤ i) = false := decide_eq_false h3
            have HG : Hid ((Iv.mk l i).goodB L = false) := (not_good fun h => h3 h.2.2.2.2.1 : (Iv.mk l i).goodB L = false)
            rw [HG.out]
            go_enter Tryz.func72, Tryz.ntmps72
            go_wp2_with fail
            go_quiet (fail)
            go_wp2
            go_ret
            exact ⟨rfl, dbel1d _ _ _⟩
        · have hd : decide (l ≤ L) = false := decide_eq_false h2
          have HG : Hid ((Iv.mk l i).goodB L = false) := (not_good fun h => h2 h.2.2.2.1 : (Iv.mk l i).goodB L = false)
          rw [HG.out]
          go_enter Tryz.func72, Tryz.ntmps72
          go_wp2_with fail
          go_quiet (fail)
          go_wp2
          go_ret
          exact ⟨rfl, dbel1d _ _ _⟩
      · have hd : decide (0 ≤ l) = false := decide_eq_false h1
        have HG : Hid ((Iv.mk l i).goodB L = false) := (not_good fun h => h1 h.2.2.1 : (Iv.mk l i).goodB L = false)
        rw [HG.out]
        go_enter Tryz.func72, Tryz.ntmps72
        go_wp2_with fail
        go_quiet (fail)
        go_wp2
        go_ret
        exact ⟨rfl, dbel1d _ _ _⟩
    · have hd : decide (L < 9) = false := decide_eq_false g1
      have HG : Hid ((Iv.mk l i).goodB L = false) := (not_good fun h => g1 (by have := h.2.1; omega) : (Iv.mk l i).goodB L = false)
      rw [HG.out]
      go_enter Tryz.func72, Tryz.ntmps72
      go_wp2_with fail
      go_quiet (fail)
      go_wp2
      go_ret
      exact ⟨rfl, dbel1d _ _ _⟩
  · have hd : decide (0 ≤ L) = false := decide_eq_false g0
    have HG : Hid ((Iv.mk l i).goodB L = false) := (not_good fun h => g0 h.1 : (Iv.mk l i).goodB L = false)
    rw [HG.out]
    go_enter Tryz.func72, Tryz.ntmps72
    go_wp2_with fail
    go_quiet (fail)
    go_wp2
    go_ret
    exact ⟨rfl, dbel1d _ _ _⟩

set_option maxHeartbeats 1000000 in
theorem rhas_any (l i c n : Nat) (w : World) (h1 : l ≤ n) (h2 : n ≤ 8) (hc : c ≤ 65536) :
    Calls Tryz.prog 78 #[.agg #[.int .i64 l, .int .i64 i], .int .i64 c, .int .i64 n] w fun e w' => e = .returned (.bool (decide (c / 2 ^ (n - l) = i))) ∧ Below w.heap.size w w' := by
  have HP := fun W => power_any (n - l) W (by omega)
  rw [show ((n - l : Nat) : Int) = (n : Int) - (l : Int) by omega] at HP
  have HP : Hid _ := HP
  have hp1 := pow_pos2 (n - l)
  have hp2 := pow_le_62 (show n - l ≤ 16 by omega) (Nat.le_refl _)
  generalize 2 ^ (n - l) = P at *
  go_enter Tryz.func78, Tryz.ntmps78
  go_wp2_with fail
  go_quiet ((go_at_call 30; exact Calls.quiet_of_same (HP.out _)))
  go_wp2
  go_ret
  refine ⟨ret_b ?_, dbel1d _ _ _⟩
  rw [Bool.eq_iff_iff]
  simp
  have hq : c / P ≤ c := Nat.div_le_self c P
  rw [← Int.natCast_ediv]
  generalize c / P = q at *
  rw [w64_in (by omega) (by omega)]
  omega

end Go.Proofs.YtkkbhkpeglcodaaGreatDoor

/- wigwagref07.Chain, Cover. -/
namespace Go.Proofs.YtkkbhkpeglcodaaGreatDoor
open Go.ChangeShapes Go.WideShapes Go.ChangeAt Go.RowKit
set_option linter.unusedVariables false

/-- What the document's chain has when the inner loop stands at j. -/
def rch (c n l j : Nat) : List Iv := (chain c n).take l ++ if c / 2 ^ (n - l) < j then [⟨(l : Nat), ((c / 2 ^ (n - l) : Nat) : Int)⟩] else []
theorem rch_zero (c n l : Nat) : rch c n l 0 = (chain c n).take l := by simp [rch]
theorem rch_no (c n l j : Nat) (h : c / 2 ^ (n - l) ≠ j) : rch c n l (j + 1) = rch c n l j := by
  unfold rch
  by_cases h1 : c / 2 ^ (n - l) < j
  · rw [if_pos (by omega), if_pos h1]
  · rw [if_neg (by omega), if_neg h1]
theorem rch_yes (c n l j : Nat) (h : c / 2 ^ (n - l) = j) : rch c n l (j + 1) = rch c n l j ++ [⟨(l : Nat), (j : Nat)⟩] := by
  unfold rch
  rw [if_pos (by omega), if_neg (by omega), h]; simp
theorem rch_end (c n l : Nat) (hl : l ≤ n) (hc : c < 2 ^ n) : rch c n l (2 ^ l) = (chain c n).take (l + 1) := by
  unfold rch
  rw [if_pos (chain_fit c c n l hl hc), chain_snoc c n l hl]
theorem rch_len (c n l j : Nat) : (rch c n l j).length ≤ l + 1 := by
  unfold rch
  rw [List.length_append, List.length_take]
  split <;> simp <;> omega

set_option maxHeartbeats 1000000 in
theorem rchain_no (c L : Int) (w : World) (h : ¬ (Iv.mk L c).good L) :
    Calls Tryz.prog 52 #[.int .i64 c, .int .i64 L] w fun e w' => ∃ v, e = .returned v ∧ IvRow 29 w w' v [] := by
  have hc := fun W => rgood_any ⟨L, c⟩ L W
  rw [not_good h] at hc
  have HC : Hid _ := hc
  have HM : Hid _ := IvRow.made 29 w
  clear hc h
  go_enter Tryz.func52, Tryz.ntmps52
  go_wp2_with fail
  refine Calls.mono (HC.out _) ?_
  rintro e w' ⟨rfl, hb⟩
  have HM2 : Hid _ := HM.out.carry hb
  clear hb
  go_wp2
  go_ret
  exact ⟨_, rfl, HM2.out⟩

set_option maxRecDepth 100000 in
set_option maxHeartbeats 2000000 in
theorem rchain_yes (c n : Nat) (w : World) (hn : n ≤ 8) (hcn : c < 2 ^ n) :
    Calls Tryz.prog 52 #[.int .i64 c, .int .i64 n] w fun e w' => ∃ v, e = .returned v ∧ IvRow 29 w w' v (chain c n) := by
  obtain ⟨i0, hi, hz0, hz1, hz2⟩ := dinfo Tryz.infoRIv
  have hc := fun W => rgood_any ⟨n, c⟩ n W
  rw [show (Iv.mk n c).goodB n = true from decide_eq_true (Iv.good_of (Nat.le_refl _) hn hcn)] at hc
  have HC : Hid _ := hc
  have HM : Hid _ := IvRow.made 29 w
  have HCN : Hid (c < 2 ^ n) := hcn
  have h256 := pow_le_256 hn
  have hc256 : c ≤ 65536 := by omega
  clear hc hcn h256
  go_enter Tryz.func52, Tryz.ntmps52
  go_wp2_with fail
  refine Calls.mono (HC.out _) ?_
  rintro e w1 ⟨rfl, hb⟩
  have HM2 : Hid _ := HM.out.carry hb
  clear hb
  go_wp2
  go_loopg [5, 6] (n + 1) (fun kx s5 s6 wr => ∃ l : Nat, s6 = .int .i64 l ∧ l ≤ n + 1 ∧ kx = n + 1 - l ∧ (∃ a cp m, s5 = .slice a m cp) ∧ Hid (IvRow 29 w wr s5 ((chain c n).take l)))
  case atStart => exact ⟨0, rfl, Nat.zero_le _, rfl, ⟨_, _, _, rfl⟩, HM2⟩
  case round =>
    obtain ⟨l, rfl, hl, rfl, ⟨a, cp, m, rfl⟩, R⟩ := hrel
    by_cases hlt : l ≤ n
    · have HP : Hid _ := fun W => power_any l W (by omega)
      have HEND : Hid (rch c n l (2 ^ l) = (chain c n).take (l + 1)) := rch_end c n l hlt HCN.out
      have hp2 := pow_le_256 (show l ≤ 8 by omega)
      generalize 2 ^ l = P at HP HEND hp2
      rw [← rch_zero] at R
      go_wp2
      rename World => wq
      go_loopg [5, 7] P (fun kx s5 s7 wr => ∃ j : Nat, s7 = .int .i64 j ∧ j ≤ P ∧ kx = P - j ∧ (∃ a cp m, s5 = .slice a m cp) ∧ Hid (IvRow 29 w wr s5 (rch c n l j)))
      case atStart => exact ⟨0, rfl, Nat.zero_le _, rfl, ⟨_, _, _, rfl⟩, R⟩
      case round =>
        obtain ⟨j, rfl, hj, rfl, ⟨a, cp, m, rfl⟩, R2⟩ := hrel
        by_cases hjl : j < P
        · have HH : Hid _ := fun W => rhas_any l j c n W hlt hn hc256
          by_cases hq : c / 2 ^ (n - l) = j
          · have HY := rch_yes c n l j hq
            rw [show decide (c / 2 ^ (n - l) = j) = true from decide_eq_true hq] at HH
            have HY : Hid _ := HY
            have hlen := rch_len c n l j
            generalize rch c n l j = xs at *
            obtain rfl : m = xs.length := by
              obtain ⟨a', c', e, _⟩ := R2.out.isIn.shape
              simp at e; exact e.2.1
            clear hq
            go_wp2_with fail
            refine Calls.mono (HP.out _) ?_
            rintro e w' ⟨rfl, hw'⟩
            subst w'
            go_wp2_with fail
            refine Calls.mono (HH.out _) ?_
            rintro e w3 ⟨rfl, hb3⟩
            have R3 : Hid (IvRow 29 w w3 (.slice a xs.length cp) xs) := R2.out.carry hb3
            clear hb3
            have hle3 := R3.out.le
            go_wp2_with (at_builtin; refine wpList_own_append2 _ rfl _ _ 103 103 rfl w.heap.size 29 i0 _ 16 Tryz.underlying103 hi hz0 hz1 hz2 rfl _ xs.length (xs.flatMap Iv.cells) rfl (own_carryI R3.out.row (dbel1 _ _)) _ 1 (Iv.mk l j).cells rfl (src_RIv w3 ⟨l, j⟩ _ rfl) ?c3 ?c4 ?c5 ?_)
            case c3 => unfold maxLen; omega
            case c4 => omega
            case c5 => simp; omega
            intro v' W4 ha
            obtain ⟨a', cp', hv⟩ := ha.shape
            subst hv
            have HST : Hid (IvRow 29 w W4 (.slice a' (xs.length + 1) cp') (rch c n l (j + 1))) := by
              show IvRow _ _ _ _ _
              rw [HY.out]
              exact R3.out.step (dbel1 _ _) ha
            clear ha
            go_wp2
            go_roundg (P - (j + 1))
            case measure => omega
            case rel => exact ⟨j + 1, by go_num, by omega, rfl, ⟨_, _, _, rfl⟩, HST⟩
          · have HY := rch_no c n l j hq
            rw [show decide (c / 2 ^ (n - l) = j) = false from decide_eq_false hq] at HH
            rw [← HY] at R2
            clear hq HY
            go_wp2_with fail
            refine Calls.mono (HP.out _) ?_
            rintro e w' ⟨rfl, hw'⟩
            subst w'
            go_wp2_with fail
            refine Calls.mono (HH.out _) ?_
            rintro e w3 ⟨rfl, hb3⟩
            have R3 : Hid _ := R2.out.carry hb3
            clear hb3
            go_wp2
            go_roundg (P - (j + 1))
            case measure => omega
            case rel => exact ⟨j + 1, by go_num, by omega, rfl, ⟨_, _, _, rfl⟩, R3⟩
        · obtain rfl : P = j := by omega
          rw [HEND.out] at R2
          go_wp2_with fail
          refine Calls.mono (HP.out _) ?_
          rintro e w' ⟨rfl, hw'⟩
          subst w'
          go_wp2
          go_roundg (n + 1 - (l + 1))
          case measure => omega
          case rel => exact ⟨l + 1, by go_num, by omega, rfl, ⟨_, _, _, rfl⟩, R2⟩
    · obtain rfl : l = n + 1 := by omega
      have HE : Hid ((chain c n).take (n + 1) = chain c n) := (List.take_of_length_le (by rw [chain_len]; omega) : (chain c n).take (n + 1) = chain c n)
      go_wp2
      go_ret
      exact ⟨_, rfl, by rw [← HE.out]; exact R.out⟩
end Go.Proofs.YtkkbhkpeglcodaaGreatDoor

/- wigwagref07.cover, Cover. -/
namespace Go.Proofs.YtkkbhkpeglcodaaGreatDoor
open Go.ChangeShapes Go.WideShapes Go.ChangeAt Go.RowKit
set_option linter.unusedVariables false

theorem IvRow.rebase {T : TypeId} {W W' W2 : World} {v : Value} {xs : List Iv} (hb : Below W.heap.size W W') (h : IvRow T W' W2 v xs) : IvRow T W W2 v xs := by
  refine ⟨⟨h.row.1, ?_⟩, hb.trans (h.bel.mono hb.size)⟩
  rcases h.row.2 with h1 | ⟨g', cap, cur, hv, hbg, hg, hr⟩
  · exact .inl h1
  · exact .inr ⟨g', cap, cur, hv, Nat.le_trans hb.size hbg, hg, hr⟩
theorem IvRow.stepL {T : TypeId} {w0 W1 W2 : World} {v v' : Value} {xs ys : List Iv} (h1 : IvRow T w0 W1 v xs) (ha : Appended2 w0.heap.size T W1 W2 v v' (xs.length + ys.length) (xs.flatMap Iv.cells ++ ys.flatMap Iv.cells)) : IvRow T w0 W2 v' (xs ++ ys) := by
  refine ⟨?_, grown_belowI h1.bel h1.le h1.row ha.grown⟩
  have := ha.row
  simpa using this
theorem IvRow.one (T : TypeId) (w : World) (x : Iv) : IvRow T w (w.alloc (.cells #[.int .i64 x.lev, .int .i64 x.idx] T)) (.slice (some ⟨w.heap.size, 0, none⟩) 1 1) [x] :=
  ⟨⟨rfl, .inr ⟨w.heap.size, 1, _, rfl, Nat.le_refl _, heap_alloc_new w _, Nat.le_refl _, by unfold maxLen; omega, rfl, rfl⟩⟩, dbel1 _ _⟩
theorem mulw (i P : Nat) (hb : i * P ≤ 256) : wrap64 ((i : Int) * (P : Int)) = ((i * P : Nat) : Int) ∧ IntKind.i64.wrap ((i : Int) * (P : Int)) = ((i * P : Nat) : Int) := by
  have e : (i : Int) * (P : Int) = ((i * P : Nat) : Int) := by rw [Int.natCast_mul]
  rw [e]
  generalize i * P = A at *
  exact ⟨w64_in (by omega) (by omega), IntWalk.i64_in _ (by omega)⟩
theorem rc_bd {l m n i : Nat} (hl : l + m = n) (hn : n ≤ 8) (hil : i < 2 ^ l) : i * 2 ^ m + 2 ^ m ≤ 256 ∧ i ≤ 256 := by
  have h1 : (i + 1) * 2 ^ m ≤ 2 ^ l * 2 ^ m := Nat.mul_le_mul_right _ hil
  rw [← Nat.pow_add, hl, Nat.add_mul, Nat.one_mul] at h1
  have h2 := pow_le_256 hn
  have h3 := pow_le_256 (show l ≤ 8 by omega)
  exact ⟨Nat.le_trans h1 h2, Nat.le_trans (Nat.le_of_lt hil) h3⟩
theorem rc_kid {l i : Nat} (hil : i < 2 ^ l) : 2 * i < 2 ^ (l + 1) ∧ 2 * i + 1 < 2 ^ (l + 1) := by
  rw [Nat.pow_succ]
  generalize 2 ^ l = Q at *
  omega

theorem made2 (T : TypeId) (W : World) (o : Obj) (nq : Nat) : IvRow T W (((W.alloc o).drewN nq).alloc (.cells #[] T)) (.slice (some ⟨W.heap.size + 1, 0, none⟩) 0 0) [] := by
  have := IvRow.rebase (dbel1d W o nq) (IvRow.made T ((W.alloc o).drewN nq))
  simpa using this
theorem one2 (T : TypeId) (W : World) (o : Obj) (nq : Nat) (x : Iv) : IvRow T W (((W.alloc o).drewN nq).alloc (.cells #[.int .i64 x.lev, .int .i64 x.idx] T)) (.slice (some ⟨W.heap.size + 1, 0, none⟩) 1 1) [x] := by
  have := IvRow.rebase (dbel1d W o nq) (IvRow.one T ((W.alloc o).drewN nq) x)
  simpa using this
/-- What the walks below have in common. -/
structure RcFit (lo hi n l i P A : Nat) : Prop where
  pw : ∀ W, Calls Tryz.prog 30 #[.int .i64 ((n : Int) - (l : Int))] W fun e w' => e = .returned (.int .i64 (P : Int)) ∧ w' = W
  w64 : wrap64 ((i : Int) * (P : Int)) = (A : Int)
  wr : IntKind.i64.wrap ((i : Int) * (P : Int)) = (A : Int)
  bd : A + P ≤ 256
  bi : i ≤ 256
  p1 : 1 ≤ P
  bn : n ≤ 8
  bl : l ≤ n
  lo : lo ≤ 255
  hi : hi ≤ 255

set_option maxHeartbeats 1000000 in
theorem rc_out (lo hi n l i P A : Nat) (W : World) (h : RcFit lo hi n l i P A) (hs : hi < A ∨ A + P ≤ lo) :
    Calls Tryz.prog 73 #[.agg #[.int .i64 l, .int .i64 i], .int .i64 lo, .int .i64 hi, .int .i64 n] W fun e w' => ∃ v, e = .returned v ∧ IvRow 29 W w' v [] := by
  obtain ⟨pw, h64, hwr, bd, bi, p1, bn, bl, hlo, hhi⟩ := h
  have HP : Hid _ := pw
  clear pw
  by_cases s1 : hi < A
  · clear hs
    go_enter Tryz.func73, Tryz.ntmps73
    go_wp2_with fail
    refine Calls.mono (HP.out _) ?_
    rintro e w' ⟨rfl, hw'⟩
    subst w'
    go_wp2_with fail
    go_quiet (fail)
    go_wp2
    go_ret
    exact ⟨_, rfl, made2 _ _ _ _⟩
  · have s2 : A + P ≤ lo := by omega
    clear hs
    go_enter Tryz.func73, Tryz.ntmps73
    go_wp2_with fail
    refine Calls.mono (HP.out _) ?_
    rintro e w' ⟨rfl, hw'⟩
    subst w'
    go_wp2_with fail
    go_quiet (fail)
    go_wp2
    go_ret
    exact ⟨_, rfl, made2 _ _ _ _⟩

set_option maxHeartbeats 1000000 in
theorem rc_full (lo hi n l i P A : Nat) (W : World) (h : RcFit lo hi n l i P A) (s3 : lo ≤ A) (s4 : A + P ≤ hi + 1) :
    Calls Tryz.prog 73 #[.agg #[.int .i64 l, .int .i64 i], .int .i64 lo, .int .i64 hi, .int .i64 n] W fun e w' => ∃ v, e = .returned v ∧ IvRow 29 W w' v [⟨(l : Nat), (i : Nat)⟩] := by
  obtain ⟨pw, h64, hwr, bd, bi, p1, bn, bl, hlo, hhi⟩ := h
  have HP : Hid _ := pw
  clear pw
  have s1 : ¬ hi < A := by omega
  have s2 : ¬ A + P ≤ lo := by omega
  go_enter Tryz.func73, Tryz.ntmps73
  go_wp2_with fail
  refine Calls.mono (HP.out _) ?_
  rintro e w' ⟨rfl, hw'⟩
  subst w'
  go_wp2_with fail
  go_quiet (fail)
  go_wp2
  go_ret
  exact ⟨_, rfl, one2 _ _ _ _ ⟨(l : Nat), (i : Nat)⟩⟩

set_option maxRecDepth 100000 in
set_option maxHeartbeats 1000000 in
theorem rc_part (lo hi n l i P A : Nat) (W : World) (xs ys : List Iv) (h : RcFit lo hi n l i P A) (s1 : ¬ hi < A) (s2 : ¬ A + P ≤ lo) (s3 : ¬ (lo ≤ A ∧ A + P ≤ hi + 1)) (lx : xs.length ≤ 100) (ly : ys.length ≤ 100)
    (k1 : ∀ W, Calls Tryz.prog 73 #[.agg #[.int .i64 ((l : Int) + 1), .int .i64 (2 * (i : Int))], .int .i64 lo, .int .i64 hi, .int .i64 n] W fun e w' => ∃ v, e = .returned v ∧ IvRow 29 W w' v xs)
    (k2 : ∀ W, Calls Tryz.prog 73 #[.agg #[.int .i64 ((l : Int) + 1), .int .i64 (2 * (i : Int) + 1)], .int .i64 lo, .int .i64 hi, .int .i64 n] W fun e w' => ∃ v, e = .returned v ∧ IvRow 29 W w' v ys) :
    Calls Tryz.prog 73 #[.agg #[.int .i64 l, .int .i64 i], .int .i64 lo, .int .i64 hi, .int .i64 n] W fun e w' => ∃ v, e = .returned v ∧ IvRow 29 W w' v (xs ++ ys) := by
  obtain ⟨i0, hi0, hz0, hz1, hz2⟩ := dinfo Tryz.infoRIv
  obtain ⟨pw, h64, hwr, bd, bi, p1, bn, bl, hlo, hhi⟩ := h
  have HP : Hid _ := pw
  have HC1 : Hid _ := k1
  have HC2 : Hid _ := k2
  clear pw k1 k2
  have H3 : Hid (¬ (lo ≤ A ∧ A + P ≤ hi + 1)) := s3
  clear s3
  by_cases s3 : lo ≤ A
  all_goals
    have s4 : lo ≤ A → ¬ A + P ≤ hi + 1 := fun h h' => H3.out ⟨h, h'⟩
    first | (have s5 := s4 s3; clear s4) | clear s4
    go_enter Tryz.func73, Tryz.ntmps73
    go_wp2_with fail
    refine Calls.mono (HP.out _) ?_
    rintro e w' ⟨rfl, hw'⟩
    subst w'
    go_wp2_with fail
    go_quiet (fail)
    obtain ⟨W1, hW1⟩ : ∃ W1, W1 = (W.alloc (.cells #[.int .i64 l, .int .i64 i] 29)).drewN nq := ⟨_, rfl⟩
    rw [← hW1]
    have b1 : Below W.heap.size W W1 := by rw [hW1]; exact dbel1d _ _ _
    have k0 : W1.cell? ⟨W.heap.size, 0, none⟩ = some (.int .i64 l) := by rw [hW1]; simp
    have k1 : W1.cell? ⟨W.heap.size, 1, none⟩ = some (.int .i64 i) := by rw [hW1]; simp
    have kl : W.heap.size < W1.heap.size := by rw [hW1]; simp
    have HB1 : Hid (Below W.heap.size W W1) := b1
    clear hW1 b1
    go_wp2_with fail
    refine Calls.mono (HC1.out _) ?_
    rintro e W2 ⟨v1, rfl, hr1⟩
    have R1 : Hid (IvRow 29 W W2 v1 xs) := IvRow.rebase HB1.out hr1
    have q0 := (hr1.bel.cell (p := ⟨W.heap.size, 0, none⟩) kl).trans k0
    have q1 := (hr1.bel.cell (p := ⟨W.heap.size, 1, none⟩) kl).trans k1
    have ql : W.heap.size < W2.heap.size := Nat.lt_of_lt_of_le kl hr1.bel.size
    obtain ⟨a1, c1, hv1, _⟩ := hr1.isIn.shape
    subst hv1
    clear hr1 k0 k1 kl HB1
    go_wp2_with fail
    refine Calls.mono (HC2.out _) ?_
    rintro e W3 ⟨v2, rfl, hr2⟩
    have R2 : Hid (IvRow 29 W W3 (.slice a1 xs.length c1) xs) := R1.out.carry hr2.bel
    have HO2 : Hid (W3.ownsRow W2.heap.size 29 2 v2 ys.length (ys.flatMap Iv.cells)) := hr2.row
    obtain ⟨a2, c2, hv2, _⟩ := hr2.isIn.shape
    subst hv2
    have hle3 := R2.out.le
    clear hr2 q0 q1 ql R1
    go_wp2_with (at_builtin; refine wpList_own_append2 _ rfl _ _ 103 103 rfl W.heap.size 29 i0 _ 16 Tryz.underlying103 hi0 hz0 hz1 hz2 rfl _ xs.length (xs.flatMap Iv.cells) rfl R2.out.row _ ys.length (ys.flatMap Iv.cells) rfl (src_own HO2.out) ?c3 ?c4 ?c5 ?_)
    case c3 => unfold maxLen; omega
    case c4 => omega
    case c5 => omega
    intro v3 W4 ha
    have HST : Hid (IvRow 29 W W4 v3 (xs ++ ys)) := R2.out.stepL ha
    clear ha
    go_wp2
    go_ret
    exact ⟨_, rfl, HST.out⟩

end Go.Proofs.YtkkbhkpeglcodaaGreatDoor

/- wigwagref07.Cover, by halves. -/
namespace Go.Proofs.YtkkbhkpeglcodaaGreatDoor
open Go.ChangeShapes Go.WideShapes Go.ChangeAt Go.RowKit
set_option linter.unusedVariables false

theorem fit_of {lo hi n l m i : Nat} (hn : n ≤ 8) (hlo : lo ≤ 255) (hhi : hi ≤ 255) (hl : l + m = n) (hil : i < 2 ^ l) : RcFit lo hi n l i (2 ^ m) (i * 2 ^ m) := by
  have hm : m ≤ 16 := by clear hil; omega
  have e : ((m : Nat) : Int) = (n : Int) - (l : Int) := by clear hil; omega
  have hb : l ≤ n := by clear hil; omega
  obtain ⟨hpb, hi2⟩ := rc_bd hl hn hil
  obtain ⟨h64, hwr⟩ := mulw i (2 ^ m) (Nat.le_trans (Nat.le_add_right _ _) hpb)
  have HP := fun W => power_any m W hm
  rw [e] at HP
  exact ⟨HP, h64, hwr, hpb, hi2, pow_pos2 m, hn, hb, hlo, hhi⟩
theorem len100 {lo hi n m i : Nat} (hm : m ≤ 8) : (hv lo hi n m i).length ≤ 100 := by
  have := hv_len lo hi n m i
  omega

theorem rcover_rec (lo hi n : Nat) (hn : n ≤ 8) (hlo : lo ≤ 255) (hhi : hi ≤ 255) : ∀ (m l i : Nat) (W : World), l + m = n → i < 2 ^ l →
    Calls Tryz.prog 73 #[.agg #[.int .i64 l, .int .i64 i], .int .i64 lo, .int .i64 hi, .int .i64 n] W fun e w' => ∃ v, e = .returned v ∧ IvRow 29 W w' v (hv lo hi n m i) := by
  intro m
  induction m with
  | zero =>
    intro l i W hl hil
    have F := fit_of (i := i) hn hlo hhi hl hil
    have e : n - 0 = l := by clear F hil; omega
    clear hil
    by_cases s : hi < i * 2 ^ 0 ∨ i * 2 ^ 0 + 2 ^ 0 ≤ lo
    · rw [hv_out lo hi n 0 i s]; exact rc_out lo hi n l i _ _ W F s
    · have t : lo ≤ i * 2 ^ 0 ∧ i * 2 ^ 0 + 2 ^ 0 ≤ hi + 1 := by
        clear F
        rw [Nat.pow_zero, Nat.mul_one] at *
        omega
      rw [hv_full lo hi n 0 i t.1 t.2, e]
      exact rc_full lo hi n l i _ _ W F t.1 t.2
  | succ m ih =>
    intro l i W hl hil
    have e1 : l + 1 + m = n := by clear hil; omega
    have e2 : n - (m + 1) = l := by clear hil; omega
    have e3 : m ≤ 8 := by clear hil; omega
    have F := fit_of (i := i) hn hlo hhi hl hil
    have c1 := fun W => ih (l + 1) (2 * i) W e1 (rc_kid hil).1
    have c2 := fun W => ih (l + 1) (2 * i + 1) W e1 (rc_kid hil).2
    have HPART := hv_part lo hi n m i
    have HOUT := hv_out lo hi n (m + 1) i
    have HFULL := hv_full lo hi n (m + 1) i
    rw [e2] at HFULL
    clear hil ih
    generalize i * 2 ^ (m + 1) = A at *
    generalize 2 ^ (m + 1) = P at *
    by_cases s : hi < A ∨ A + P ≤ lo
    · rw [HOUT s]; exact rc_out lo hi n l i _ _ W F s
    · by_cases t : lo ≤ A ∧ A + P ≤ hi + 1
      · rw [HFULL t.1 t.2]; exact rc_full lo hi n l i _ _ W F t.1 t.2
      · rw [HPART (by omega) (by omega) t]
        refine rc_part lo hi n l i P A W _ _ F (fun h => s (.inl h)) (fun h => s (.inr h)) t (len100 e3) (len100 e3) (fun W => ?_) (fun W => ?_)
        · have := c1 W
          rw [show ((l + 1 : Nat) : Int) = (l : Int) + 1 from rfl, show ((2 * i : Nat) : Int) = 2 * (i : Int) by rw [Int.natCast_mul]; rfl] at this
          exact this
        · have := c2 W
          rw [show ((l + 1 : Nat) : Int) = (l : Int) + 1 from rfl, show ((2 * i + 1 : Nat) : Int) = 2 * (i : Int) + 1 by rw [Int.natCast_add, Int.natCast_mul]; rfl] at this
          exact this

set_option maxHeartbeats 1000000 in
theorem rcover_any (lo hi L : Int) (w : World) :
    Calls Tryz.prog 47 #[.int .i64 lo, .int .i64 hi, .int .i64 L] w fun e w' => ∃ v, e = .returned v ∧ IvRow 29 w w' v (coverOf lo hi L) := by
  have G1 : Hid _ := fun W => rgood_any ⟨L, lo⟩ L W
  have G2 : Hid _ := fun W => rgood_any ⟨L, hi⟩ L W
  by_cases h : (Iv.mk L lo).good L ∧ (Iv.mk L hi).good L
  · by_cases hlh : hi < lo
    · have e : coverOf lo hi L = [] := by
        unfold coverOf; rw [if_pos h]
        have := (good_cell.1 h.2).2.2.1
        exact cover_end _ _ _ (by omega)
      rw [e]
      clear h e G1 G2
      have HM : Hid _ := IvRow.made 29 w
      go_enter Tryz.func47, Tryz.ntmps47
      go_wp2
      go_ret
      exact ⟨_, rfl, HM.out⟩
    · obtain ⟨l, k, n, e, rfl, h1, h2, h3⟩ := Iv.good_nat h.1
      obtain ⟨l', k', n', e', en, g1, g2, g3⟩ := Iv.good_nat h.2
      have e1 : ((n : Nat) : Int) = l := congrArg Iv.lev e
      have e2 : lo = k := congrArg Iv.idx e
      have e1' : ((n : Nat) : Int) = l' := congrArg Iv.lev e'
      have e2' : hi = k' := congrArg Iv.idx e'
      obtain rfl : n = l := by clear h3 g3; omega
      obtain rfl : n = l' := by clear h3 g3; omega
      subst e2 e2'
      have hkk : k ≤ k' := by clear h3 g3; omega
      have hp := pow_le_256 h2
      have HK : Hid _ := fun W => rcover_rec k k' n h2 (by omega) (by omega) n 0 0 W (by omega) (by decide)
      rw [coverOf_nat h2 h3 g3, cover_halves k k' n hkk g3]
      rw [show (Iv.mk n k).goodB n = true from decide_eq_true h.1] at G1
      rw [show (Iv.mk n k').goodB n = true from decide_eq_true h.2] at G2
      generalize hv k k' n n 0 = xs at *
      clear h e e' en e1 e1' h1 g1 g2 h3 g3 hp
      go_enter Tryz.func47, Tryz.ntmps47
      go_wp2_with fail
      refine Calls.mono (G1.out _) ?_
      rintro e W1 ⟨rfl, b1⟩
      go_wp2_with fail
      refine Calls.mono (G2.out _) ?_
      rintro e W2 ⟨rfl, b2⟩
      have B2 : Hid (Below w.heap.size w W2) := b1.trans (b2.mono b1.size)
      clear b1 b2
      go_wp2_with fail
      refine Calls.mono (HK.out _) ?_
      rintro e W3 ⟨v, rfl, hr⟩
      have R : Hid _ := IvRow.rebase B2.out hr
      clear hr
      go_wp2
      go_ret
      exact ⟨_, rfl, R.out⟩
  · have e : coverOf lo hi L = [] := if_neg h
    rw [e]
    by_cases hlh : hi < lo
    · clear h e G1 G2
      have HM : Hid _ := IvRow.made 29 w
      go_enter Tryz.func47, Tryz.ntmps47
      go_wp2
      go_ret
      exact ⟨_, rfl, HM.out⟩
    · by_cases h1 : (Iv.mk L lo).good L
      · rw [show (Iv.mk L lo).goodB L = true from decide_eq_true h1] at G1
        rw [show (Iv.mk L hi).goodB L = false from not_good (fun hh => h ⟨h1, hh⟩)] at G2
        clear h h1 e
        go_enter Tryz.func47, Tryz.ntmps47
        go_wp2_with fail
        refine Calls.mono (G1.out _) ?_
        rintro e W1 ⟨rfl, b1⟩
        go_wp2_with fail
        refine Calls.mono (G2.out _) ?_
        rintro e W2 ⟨rfl, b2⟩
        have R : Hid _ := IvRow.rebase (b1.trans (b2.mono b1.size)) (IvRow.made 29 W2)
        clear b1 b2
        go_wp2
        go_ret
        exact ⟨_, rfl, R.out⟩
      · rw [show (Iv.mk L lo).goodB L = false from not_good h1] at G1
        clear h h1 e G2
        go_enter Tryz.func47, Tryz.ntmps47
        go_wp2_with fail
        refine Calls.mono (G1.out _) ?_
        rintro e W1 ⟨rfl, b1⟩
        have R : Hid _ := IvRow.rebase b1 (IvRow.made 29 W1)
        clear b1
        go_wp2
        go_ret
        exact ⟨_, rfl, R.out⟩
end Go.Proofs.YtkkbhkpeglcodaaGreatDoor

/- The document's groups (wigwagref08): Of. -/
namespace Go.Proofs.YtkkbhkpeglcodaaGreatDoor
open Go.ChangeShapes Go.WideShapes Go.ChangeAt Go.RowKit
set_option linter.unusedVariables false

theorem Best.uniq {az : List At} {f : List Pd} {n b b' : Nat} (h : Best az f n b) (h' : Best az f n b') : b = b' := by
  rcases Nat.lt_trichotomy b b' with q | q | q
  · have h1 := h'.fst b q
    have h2 := h.all b' h'.lt
    omega
  · exact q
  · have h1 := h.fst b' q
    have h2 := h'.all b h.lt
    omega
theorem StRow.made (w : World) : StRow w (w.alloc (.cells #[] 9)) (.slice (some ⟨w.heap.size, 0, none⟩) 0 0) [] :=
  ⟨World.ownsRow_made w #[] 0 (Nat.le_refl _) (Nat.zero_le _) rfl, dbel1 _ _⟩
/-- A row of names that grows beside a row of intervals. -/
structure Bo (w0 W : World) (s : Value) (ss : List ByteArray) (v : Value) (xs : List Iv) : Prop where
  st : StRow w0 W s ss
  iv : W.ownsRow w0.heap.size 29 2 v xs.length (xs.flatMap Iv.cells)
  ap : ∀ k, s.ownBlock = some k → v.ownBlock ≠ some k
theorem Bo.carry {w0 W W' : World} {s v : Value} {ss : List ByteArray} {xs : List Iv} (h : Bo w0 W s ss v xs) (hb : Below W.heap.size W W') : Bo w0 W' s ss v xs :=
  ⟨h.st.carry hb, own_carryI h.iv hb, h.ap⟩
theorem Bo.step {w0 W W' : World} {s s' v : Value} {ss ys : List ByteArray} {xs : List Iv} (h : Bo w0 W s ss v xs) (ha : Appended w0.heap.size 9 W W' s s' (ss.length + ys.length) (stc ss ++ stc ys)) : Bo w0 W' s' (ss ++ ys) v xs := by
  refine ⟨h.st.stepL ha, h.iv.kept ha.grown ?_, fun k hk hv => ?_⟩
  · cases hv : v.ownBlock with
    | none => exact Or.inl rfl
    | some g =>
      refine Or.inr fun e => ?_
      exact h.ap g e.symm hv
  · rcases ha.new k hk with q | q
    · exact h.ap k q hv
    · have := (h.iv.lt k hv).2; omega

/-- What the document's Of answers. -/
def ROf (e : Ending) (w w' : World) (az : List At) (f : List Pd) (L : Int) : Prop :=
  (∃ (n b : Nat) (v : Value), L = n ∧ e = .returned (.tuple #[v, .int .i64 0]) ∧ GoodF az f L ∧ Best az f n b ∧ StRow w w' v (ofs az f L b)) ∨ (∃ c : Int, e = .returned (.tuple #[.slice none 0 0, .int .i64 c]) ∧ ¬ c = 0 ∧ ChkF az f L c)
theorem ROf.bad {e : Ending} {w w' : World} {az : List At} {f : List Pd} {L : Int} (c : Int) (h : e = .returned (.tuple #[.slice none 0 0, .int .i64 c])) (hc : ¬ c = 0) (hk : ChkF az f L c) : ROf e w w' az f L := Or.inr ⟨c, h, hc, hk⟩

set_option maxRecDepth 100000 in
set_option maxHeartbeats 4000000 in
theorem rof8_any (v u : Value) (az : List At) (f : List Pd) (L : Int) (w : World) (h : AtIn w v az) (hu : PdIn w u f) (hl : az.length ≤ 1000) (hl2 : f.length ≤ 1000) (hz : ∀ i, i < az.length → (az.getD i at0).name.size ≤ maxLen) (hz2 : ∀ i, i < f.length → (f.getD i pd0).str.size ≤ 1000 ∧ (f.getD i pd0).name.size ≤ 1000) :
    Calls Tryz.prog 20 #[v, u, .int .i64 L] w fun e w' => ROf e w w' az f L ∧ Below w.heap.size w w' := by
  obtain ⟨i0, hi, hz0, hz1, hz2'⟩ := dinfo Tryz.infoSt
  have HA : Hid (AtIn w v az) := h
  have HP : Hid (PdIn w u f) := hu
  have HZ2 : Hid (∀ i, i < f.length → (f.getD i pd0).str.size ≤ 1000 ∧ (f.getD i pd0).name.size ≤ 1000) := hz2
  have HCK : Hid _ := rchoose8_any v u az f L w h hu hl hl2 hz (fun i hi => (hz2 i hi).1)
  obtain ⟨a, cp, rfl, _⟩ := h.shape
  obtain ⟨b', cq, rfl, _⟩ := hu.shape
  clear h hu hz hz2
  go_enter Tryz.func20, Tryz.ntmps20
  go_wp2_with fail
  refine Calls.mono HCK.out ?_
  rintro e w1 ⟨hCh, b1⟩
  have HB1 : Hid (Below w.heap.size w w1) := b1
  clear b1 HCK
  rcases hCh with ⟨n, b, rfl, rfl, hG, hB⟩ | ⟨c, rfl, hc, hk⟩
  case inr =>
    have HC : Hid (ChkF az f L c) := hk
    have hcb : (c == 0) = false := by simpa using hc
    clear hk
    go_wp2
    go_ret2
    exact ⟨ROf.bad c rfl hc HC.out, HB1.out⟩
  have HG : Hid (GoodF az f n ∧ Best az f n b) := ⟨hG, hB⟩
  have hb : b < f.length := hB.lt
  have hn : n ≤ 8 := by have := hG.2.1; omega
  have ha1 : 1 ≤ az.length := hG.2.2.1.1
  obtain ⟨gf, hgf, hgfl, hcq, _⟩ := (HP.out.below HB1.out).row 0 (by omega)
  obtain ⟨ga, hga, hgal, hcp, _⟩ := (HA.out.below HB1.out).row 0 (by omega)
  subst hgf hga
  have HLK : Hid (∀ i, i < f.length → ∃ k, k < az.length ∧ ∀ W, Below w.heap.size w W → Look (.slice (some ⟨ga, 0, none⟩) az.length cp) az W (f.getD i pd0) (az.getD k at0) k n (rg az (f.getD i pd0) n).1 (rg az (f.getD i pd0) n).2) := fun i hi => by
    obtain ⟨_, k, hk, _⟩ := HG.out.1.2.2.2.2.2 i hi
    exact ⟨k, hk.1, fun W hW => look_of _ az _ k n W (HA.out.below hW) hl hn (Nat.le_trans (HZ2.out i hi).1 (by omega)) hk⟩
  have HOF : Hid (ofs az f n b = (coverOf (rg az (f.getD b pd0) n).1 (rg az (f.getD b pd0) n).2 n).map (gname (f.getD b pd0).name)) := (rfl : ofs az f n b = (coverOf (rg az (f.getD b pd0) n).1 (rg az (f.getD b pd0) n).2 n).map (gname (f.getD b pd0).name))
  have hnz := (HZ2.out b hb).2
  have HNC : Hid (∀ W, Below w.heap.size w W → W.cell? ⟨gf, b * 5, none⟩ = some (.string (f.getD b pd0).name)) := fun W hW => by
    obtain ⟨g, hg, _, _, c0, _⟩ := (HP.out.below hW).row b hb
    obtain rfl : g = gf := by simpa using hg.symm
    exact c0
  have HGFL : Hid (gf < w.heap.size) := by
    obtain ⟨g, hg, hgl, _⟩ := HP.out.row b hb
    obtain rfl : g = gf := by simpa using hg.symm
    exact hgl
  clear hG hB hgfl hgal
  obtain ⟨gz, hgz, hgl, _, c0, c1, c2, c3, c4⟩ := (HP.out.below HB1.out).row b hb
  have hgq : gz = gf := by simpa using hgz.symm
  subst hgq
  obtain ⟨k2, hkl2, hLK⟩ := HLK.out b hb
  obtain ⟨gy, hgy, hgyl, _, m0, m1, m2, m3⟩ := (HA.out.below HB1.out).row k2 hkl2
  have hgr : gy = ga := by simpa using hgy.symm
  subst hgr
  have HL : Hid _ := hLK w1 HB1.out
  have HS2 : Hid (szI az (f.getD b pd0) n = (rg az (f.getD b pd0) n).2 - (rg az (f.getD b pd0) n).1 + 1) := HL.out.size
  have hbdb := HL.out.bd
  clear hLK
  generalize (rg az (f.getD b pd0) n).1 = r1 at HL HS2 hbdb HOF
  generalize (rg az (f.getD b pd0) n).2 = r2 at HL HS2 hbdb HOF
  generalize az.getD k2 at0 = x at m0 m1 m2 m3 HL
  obtain ⟨p, hp⟩ : ∃ p, p = f.getD b pd0 := ⟨_, rfl⟩
  rw [← hp] at c0 c1 c2 c3 c4 HL HOF hnz HNC
  clear hp
  obtain ⟨xn, xk, xm, xx⟩ := x
  obtain ⟨pn, op, lo, hi', st⟩ := p
  simp only at c0 c1 c2 c3 c4 m0 m1 m2 m3 hnz HOF HNC
  obtain ⟨ι, F, _, hF0, hFb, hFc⟩ := grown_fam w1
  have f0 : ∀ t, (F t).cell? ⟨gz, b * 5, none⟩ = some (.string pn) := fun t => cell_grown c0 (hFb t)
  have f1 : ∀ t, (F t).cell? ⟨gz, b * 5 + 1, none⟩ = some (.int .i64 op) := fun t => cell_grown c1 (hFb t)
  have f2 : ∀ t, (F t).cell? ⟨gz, b * 5 + 2, none⟩ = some (.int .i64 lo) := fun t => cell_grown c2 (hFb t)
  have f3 : ∀ t, (F t).cell? ⟨gz, b * 5 + 3, none⟩ = some (.int .i64 hi') := fun t => cell_grown c3 (hFb t)
  have f4 : ∀ t, (F t).cell? ⟨gz, b * 5 + 4, none⟩ = some (.string st) := fun t => cell_grown c4 (hFb t)
  have e0 : ∀ t, (F t).cell? ⟨gy, k2 * 4, none⟩ = some (.string xn) := fun t => cell_grown m0 (hFb t)
  have e1 : ∀ t, (F t).cell? ⟨gy, k2 * 4 + 1, none⟩ = some (.int .i64 xk) := fun t => cell_grown m1 (hFb t)
  have e2 : ∀ t, (F t).cell? ⟨gy, k2 * 4 + 2, none⟩ = some (.int .i64 xm) := fun t => cell_grown m2 (hFb t)
  have e3 : ∀ t, (F t).cell? ⟨gy, k2 * 4 + 3, none⟩ = some (.int .i64 xx) := fun t => cell_grown m3 (hFb t)
  have HFa : Hid ((∃ i, { w1 with drawn := w1.drawn + 1 } = F i) ∧ (∀ i, Below w1.heap.size w1 (F i)) ∧ (∀ i W, Below w1.heap.size (F i) W → ∃ j, W = F j)) := ⟨hF0, hFb, hFc⟩
  have ix : (0 : Int) ≤ (k2 : Int) ∧ (k2 : Int) < (az.length : Int) := by omega
  have iy : (0 : Int) ≤ (b : Int) ∧ (b : Int) < (f.length : Int) := by omega
  clear hF0 hFb hFc c0 c1 c2 c3 c4 m0 m1 m2 m3
  go_wp2_with fail
  refine wp_region_fam F HFa.out.1 (by kernel_rfl) (by kernel_rfl) ?_
  repeat (go_big_quiet_step (first
    | (go_at_call 43; refine Calls.mono (HL.out.find _ (HFa.out.2.1 _)) ?_; rintro e' w' ⟨hs, hb'⟩; exact ⟨hs, HFa.out.2.2 _ _ (hb'.mono (HFa.out.2.1 _).size)⟩)
    | (go_at_call 42; refine Calls.mono (HL.out.range _) ?_; rintro e' w' ⟨hs, hb'⟩; exact ⟨hs, HFa.out.2.2 _ _ (hb'.mono (HFa.out.2.1 _).size)⟩)))
  refine wpQuiet_nil ?_
  rintro _ ⟨fi, rfl⟩
  have HBZ : Hid (Below w.heap.size w (F fi)) := HB1.out.trans ((HFa.out.2.1 fi).mono HB1.out.size)
  generalize F fi = W5 at HBZ ⊢
  clear HFa f0 f1 f2 f3 f4 e0 e1 e2 e3 ix iy HL
  have HCV : Hid _ := fun W => rcover_any r1 r2 n W
  have hxl := cover_len1000 r1 r2 n
  have HX : Hid _ := getD_i64 (coverOf_small r1 r2 n)
  generalize coverOf r1 r2 (n : Int) = xs at *
  go_wp2_with fail
  have M0 : Hid (StRow W5 (W5.alloc (.cells #[] 9)) (.slice (some ⟨W5.heap.size, 0, none⟩) 0 0) []) := StRow.made W5
  generalize W5.alloc (.cells #[] 9) = W6 at M0 ⊢
  refine Calls.mono (HCV.out _) ?_
  rintro e W7 ⟨vv, rfl, r7⟩
  obtain ⟨av, cv, hvv, _⟩ := r7.isIn.shape
  subst hvv
  have HBo : Hid (Bo W5 W7 (.slice (some ⟨W5.heap.size, 0, none⟩) 0 0) [] (.slice av xs.length cv) xs) := by
    refine ⟨M0.out.carry r7.bel, (IvRow.rebase M0.out.bel r7).row, fun q hq hv => ?_⟩
    have h1 : W5.heap.size = q := by simpa [Value.ownBlock] using hq
    have h2 := (r7.row.lt q hv).1
    have h3 := (M0.out.row.lt W5.heap.size rfl).2
    omega
  clear r7 M0 HCV
  go_wp2
  go_loopg [12, 50] xs.length (fun kx s12 s50 wr => ∃ k : Nat, s50 = .int .i64 k ∧ k ≤ xs.length ∧ kx = xs.length - k ∧ (∃ a c, s12 = .slice a k c) ∧ Hid (Bo W5 wr s12 ((xs.take k).map (gname pn)) (.slice av xs.length cv) xs))
  case atStart => exact ⟨0, rfl, Nat.zero_le _, rfl, ⟨_, _, rfl⟩, HBo⟩
  case round =>
    obtain ⟨k, rfl, hk, rfl, ⟨a1, c1, rfl⟩, R⟩ := hrel
    by_cases hlt : k < xs.length
    case neg =>
      obtain rfl : k = xs.length := by omega
      have HE2 : Hid (xs.take xs.length = xs) := (List.take_length : xs.take xs.length = xs)
      have HFIN : Hid (StRow w wr (.slice a1 xs.length c1) (ofs az f n b)) := by
        rw [Hid, HOF.out]
        have := StRow.rebase HBZ.out R.out.st
        rw [HE2.out] at this
        exact this
      go_wp2
      go_ret2
      exact ⟨Or.inl ⟨n, b, _, rfl, rfl, HG.out.1, HG.out.2, HFIN.out⟩, HFIN.out.bel⟩
    have hII := IvIn.ofOwn R.out.iv
    obtain ⟨av', cv', hav, hsh⟩ := hII.shape
    simp only [Value.slice.injEq, true_and] at hav
    obtain ⟨rfl, rfl⟩ := hav
    obtain ⟨g, rfl, hg, hcap, hj⟩ := hsh (by omega)
    obtain ⟨d0, d1⟩ := hj k hlt
    obtain ⟨x1, x2⟩ := HX.out k hlt
    have HBW : Hid (Below w.heap.size w wr) := HBZ.out.trans (R.out.st.bel.mono HBZ.out.size)
    have HL : Hid (((xs.take k).map (gname pn)).length = k) := (by rw [List.length_map, List.length_take]; omega : ((xs.take k).map (gname pn)).length = k)
    have HSN : Hid ((xs.take (k + 1)).map (gname pn) = (xs.take k).map (gname pn) ++ [gname pn (xs.getD k iv0)]) := (by rw [List.take_succ_eq_append_getElem hlt, List.map_append, List.map_singleton]; congr 3; simp [List.getD, hlt] : (xs.take (k + 1)).map (gname pn) = (xs.take k).map (gname pn) ++ [gname pn (xs.getD k iv0)])
    generalize xs.getD k iv0 = y at d0 d1 x1 x2 HSN
    have HN : Hid _ := fun W => rgname_any pn y W (by omega) x1 x2
    generalize (xs.take k).map (gname pn) = ss at *
    generalize gname pn y = nm at HN HSN
    obtain ⟨W8, hW8⟩ : ∃ W8, W8 = wr.alloc (.cells #[.int .i64 y.lev, .int .i64 y.idx] 29) := ⟨_, rfl⟩
    have b8 : Below wr.heap.size wr W8 := by rw [hW8]; exact dbel1 _ _
    have q0 : W8.cell? ⟨wr.heap.size, 0, none⟩ = some (.int .i64 y.lev) := by rw [hW8]; simp
    have q1 : W8.cell? ⟨wr.heap.size, 1, none⟩ = some (.int .i64 y.idx) := by rw [hW8]; simp
    have R8 : Hid (Bo W5 W8 (.slice a1 k c1) ss (.slice (some ⟨g, 0, none⟩) xs.length cv) xs) := R.out.carry b8
    have HB8 : Hid (Below w.heap.size w W8) := HBW.out.trans (b8.mono HBW.out.size)
    have q2 := HNC.out W8 HB8.out
    have hgz8 : gz < W8.heap.size := Nat.lt_of_lt_of_le HGFL.out HB8.out.size
    have hX8 : wr.heap.size < W8.heap.size := cell_block q0
    have hfar : some wr.heap.size ≠ (Value.slice a1 k c1).ownBlock := fun e => by
      have := (R.out.st.row.lt _ e.symm).2; omega
    have hfar2 : some gz ≠ (Value.slice a1 k c1).ownBlock := fun e => by
      have h1 := (R.out.st.row.lt _ e.symm).1
      have h2 := HGFL.out
      have h3 := HBZ.out.size
      omega
    have iy : (0 : Int) ≤ (b : Int) ∧ (b : Int) < (f.length : Int) := by omega
    clear hII hsh hj x1 x2 b8
    go_wp2_with fail
    rw [← hW8]
    clear hW8 d0 d1
    generalize wr.heap.size = X at *
    go_region_held3 (fun w' => w'.cell? ⟨gz, b * 5, none⟩ = some (.string pn) ∧ w'.cell? ⟨X, 0, none⟩ = some (.int .i64 y.lev) ∧ w'.cell? ⟨X, 1, none⟩ = some (.int .i64 y.idx))
      (first
        | go_keep
        | assumption)
      (first
        | (go_at_call 10; refine Calls.mono (HN.out _) ?_; rintro e w3 ⟨rfl, b3'⟩
           have b3 : Below W8.heap.size W8 w3 := ⟨b3'.os, b3'.tape, b3'.output, b3'.size, b3'.block⟩
           have R3 : Hid (Bo W5 w3 (.slice a1 k c1) ss (.slice (some ⟨g, 0, none⟩) xs.length cv) xs) := R8.out.carry b3
           have HR3 : Hid (∀ o, (w3.alloc o).ownsRow W5.heap.size 9 1 (.slice a1 k c1) k (stc ss)) := fun o => by
             have h9 := (R3.out.carry (dbel1 w3 o)).st.row
             rw [HL.out] at h9
             exact h9
           have p0 := cell_grown q0 b3
           have p1 := cell_grown q1 b3
           have p2 := cell_grown q2 b3
           have hX3 : X < w3.heap.size := cell_block p0
           have hgz3 : gz < w3.heap.size := cell_block p2
           clear b3' b3)
        | (have hguard := R3; clear hguard; refine step_own_srcS _ (by rfl) _ _ 62 62 (by rfl) W5.heap.size 9 i0 _ 16 Tryz.underlying62 hi hz0 hz1 hz2' rfl _ k (stc ss) (by rfl) (HR3.out _) _ 1 (stc [nm]) (by rfl) (src_St w3 nm _ rfl) (by unfold maxLen; omega) (by omega) (R3.out.carry (dbel1 w3 _)).st.le ?_; intro v5 w5 ha
           have HS5 : Hid (Bo W5 w5 v5 (ss ++ [nm]) (.slice (some ⟨g, 0, none⟩) xs.length cv) xs) := (R3.out.carry (dbel1 w3 _)).step (by rw [HL.out]; exact ha)
           have hsh5 := ha.shape
           have s0 : w5.cell? ⟨X, 0, none⟩ = some (.int .i64 y.lev) := (ha.grown.cell_far ⟨X, 0, none⟩ (by simp; omega) hfar).trans (cell_grown p0 (dbel1 _ _))
           have s1 : w5.cell? ⟨X, 1, none⟩ = some (.int .i64 y.idx) := (ha.grown.cell_far ⟨X, 1, none⟩ (by simp; omega) hfar).trans (cell_grown p1 (dbel1 _ _))
           have s2 : w5.cell? ⟨gz, b * 5, none⟩ = some (.string pn) := (ha.grown.cell_far ⟨gz, b * 5, none⟩ (by simp; omega) hfar2).trans (cell_grown p2 (dbel1 _ _))
           clear ha))
    all_goals
      obtain ⟨a5, c5, hv5⟩ := hsh5
      subst hv5
      rw [← HSN.out] at HS5
      go_wp2
      go_roundg (xs.length - (k + 1))
      case measure => omega
      case rel => exact ⟨k + 1, by go_num, by omega, rfl, ⟨_, _, rfl⟩, HS5⟩
end Go.Proofs.YtkkbhkpeglcodaaGreatDoor

/- The document's groups (wigwagref08): Reach. -/
namespace Go.Proofs.YtkkbhkpeglcodaaGreatDoor
open Go.ChangeShapes Go.WideShapes Go.ChangeAt Go.RowKit
set_option linter.unusedVariables false

theorem rchainOf_any (c L : Int) (w : World) :
    Calls Tryz.prog 52 #[.int .i64 c, .int .i64 L] w fun e w' => ∃ v, e = .returned v ∧ IvRow 29 w w' v (chainOf c L) := by
  by_cases h : (Iv.mk L c).good L
  · obtain ⟨h0, h8, hc0, hc⟩ := good_cell.1 h
    obtain ⟨n, rfl⟩ : ∃ n : Nat, L = n := ⟨L.toNat, by omega⟩
    obtain ⟨k, rfl⟩ : ∃ k : Nat, c = k := ⟨c.toNat, by omega⟩
    have hk : k < 2 ^ n := by
      have e : ((n : Int)).toNat = n := by omega
      rw [e] at hc
      exact_mod_cast hc
    rw [chainOf_nat (by omega) hk]
    exact rchain_yes k n w (by omega) hk
  · have e : chainOf c L = [] := if_neg h
    rw [e]
    exact rchain_no c L w h
/-- The growing row of names, the intervals and a box beside it. -/
structure Bx (w0 W : World) (s : Value) (ss : List ByteArray) (v : Value) (xs : List Iv) (X : Nat) (xn : ByteArray) : Prop where
  bo : Bo w0 W s ss v xs
  box : W.cell? ⟨X, 0, none⟩ = some (.string xn)
  far : s.ownBlock ≠ some X
theorem Bx.carry {w0 W W' : World} {s v : Value} {ss : List ByteArray} {xs : List Iv} {X : Nat} {xn : ByteArray} (h : Bx w0 W s ss v xs X xn) (hb : Below W.heap.size W W') : Bx w0 W' s ss v xs X xn :=
  ⟨h.bo.carry hb, cell_grown h.box hb, h.far⟩
theorem Bx.step {w0 W W' : World} {s s' v : Value} {ss ys : List ByteArray} {xs : List Iv} {X : Nat} {xn : ByteArray} (h : Bx w0 W s ss v xs X xn) (ha : Appended w0.heap.size 9 W W' s s' (ss.length + ys.length) (stc ss ++ stc ys)) : Bx w0 W' s' (ss ++ ys) v xs X xn := by
  have hX : X < W.heap.size := cell_block h.box
  refine ⟨h.bo.step ha, (ha.grown.cell_far ⟨X, 0, none⟩ hX (fun e => h.far e.symm)).trans h.box, fun e => ?_⟩
  rcases ha.new X e with q | q
  · exact h.far q
  · omega
/-- What the document's Reach answers. -/
def RReach (e : Ending) (w w' : World) (az : List At) (vs : List Vl) (m : Nat) (L : Int) : Prop :=
  (∃ v : Value, e = .returned (.tuple #[v, .int .i64 0]) ∧ GoodR az vs m L ∧ StRow w w' v (reachs az vs L az.length)) ∨ (∃ c : Int, e = .returned (.tuple #[.slice none 0 0, .int .i64 c]) ∧ ¬ c = 0 ∧ ChkR az vs m L c)
theorem RReach.bad {e : Ending} {w w' : World} {az : List At} {vs : List Vl} {m : Nat} {L : Int} (c : Int) (h : e = .returned (.tuple #[.slice none 0 0, .int .i64 c])) (hc : ¬ c = 0) (hk : ChkR az vs m L c) : RReach e w w' az vs m L := Or.inr ⟨c, h, hc, hk⟩

set_option maxRecDepth 100000 in
set_option maxHeartbeats 4000000 in
theorem rreach8_any (v u : Value) (az : List At) (vs : List Vl) (pay : Nat) (L : Int) (w : World) (h : AtIn w v az) (hu : VlIn w u vs) (hl : az.length ≤ 1000) (hl2 : vs.length ≤ 1000) (hp : pay ≤ 1000000) (hz : ∀ i, i < az.length → (az.getD i at0).name.size ≤ 1000) (hz2 : ∀ i, i < vs.length → (vs.getD i vl0).str.size ≤ 1000) :
    Calls Tryz.prog 22 #[v, u, .int .i64 (pay : Int), .int .i64 L] w fun e w' => RReach e w w' az vs pay L ∧ Below w.heap.size w w' := by
  obtain ⟨i0, hi, hz0, hz1, hz2'⟩ := dinfo Tryz.infoSt
  have HA : Hid (AtIn w v az) := h
  have HV : Hid (VlIn w u vs) := hu
  have HZ : Hid (∀ i, i < az.length → (az.getD i at0).name.size ≤ 1000) := hz
  have HZ2 : Hid (∀ i, i < vs.length → (vs.getD i vl0).str.size ≤ 1000) := hz2
  have HCK : Hid _ := rcheck8_any v az L w h hl (fun i hi => Nat.le_trans (hz i hi) (by unfold maxLen; omega))
  obtain ⟨a, cp, rfl, _⟩ := h.shape
  obtain ⟨au, cu, rfl, _⟩ := hu.shape
  clear h hu hz hz2
  go_enter Tryz.func22, Tryz.ntmps22
  go_wp2_with fail
  refine Calls.mono HCK.out ?_
  rintro e w1 ⟨⟨c, rfl, hC⟩, b1⟩
  have HB1 : Hid (Below w.heap.size w w1) := b1
  clear b1 HCK
  by_cases hc : c = 0
  case neg =>
    have HC : Hid (Chk az L c) := hC
    have hcb : (c == 0) = false := by simpa using hc
    clear hC
    go_wp2
    go_ret2
    exact ⟨RReach.bad c rfl hc (Or.inl ⟨hc, HC.out⟩), HB1.out⟩
  subst hc
  have HC : Hid (Chk az L 0) := hC
  obtain ⟨hL0, hL8, hSO⟩ := chk_good hC
  have HSO : Hid (SchemaOk az) := hSO
  have ha4 : az.length ≤ 4 := hSO.2.1
  clear hC hSO
  go_wp2_with fail
  refine Calls.mono (revent5_any _ _ az vs pay _ (HA.out.below HB1.out) (HV.out.below HB1.out) hl hl2 hp (fun i hi => by
    rcases (HSO.out.2.2 i hi).1.2 with q | q
    · exact Or.inl q.1
    · exact Or.inr q.1) (fun i hi => Nat.le_trans (HZ2.out i hi) (by unfold maxLen; omega))) ?_
  rintro e w2 ⟨⟨r, rfl, hr⟩, b2⟩
  have HB2 : Hid (Below w.heap.size w w2) := HB1.out.trans (b2.mono HB1.out.size)
  clear b2 HB1
  rcases hr with ⟨rfl, hF⟩ | ⟨hr, hF⟩
  case inr =>
    have HF : Hid (¬ EventOk az vs pay) := hF
    clear hF
    go_wp2
    go_ret2
    exact ⟨RReach.bad 3 rfl (by omega) (Or.inr ⟨HC.out, Or.inr ⟨HF.out, rfl⟩⟩), HB2.out⟩
  have HF : Hid (EventOk az vs pay) := hF
  have hvl : vs.length = az.length := hF.1
  obtain ⟨n, rfl⟩ : ∃ n : Nat, L = n := ⟨L.toNat, by omega⟩
  have HN0 : Hid (StRow w2 (w2.alloc (.cells #[] 9)) (.slice (some ⟨w2.heap.size, 0, none⟩) 0 0) (reachs az vs n 0)) := StRow.made w2
  clear hF HC
  go_wp2_with fail
  go_loopg [11, 34] az.length (fun kx s11 s34 wr => ∃ i : Nat, s34 = .int .i64 i ∧ i ≤ az.length ∧ kx = az.length - i ∧ (∃ a c, s11 = .slice a (reachs az vs n i).length c) ∧ Hid (StRow w2 wr s11 (reachs az vs n i)))
  case atStart => exact ⟨0, rfl, Nat.zero_le _, rfl, ⟨_, _, rfl⟩, HN0⟩
  case round =>
    obtain ⟨i, rfl, hi4, rfl, ⟨a1, c1, rfl⟩, R⟩ := hrel
    by_cases hlt : i < az.length
    case neg =>
      obtain rfl : i = az.length := by omega
      have HSF : Hid (StRow w wr (.slice a1 (reachs az vs n az.length).length c1) (reachs az vs n az.length)) := StRow.rebase HB2.out R.out
      go_wp2
      go_ret2
      exact ⟨Or.inl ⟨_, rfl, ⟨by omega, by omega, HSO.out, HF.out⟩, HSF.out⟩, HSF.out.bel⟩
    have hB : Below w.heap.size w wr := HB2.out.trans (R.out.bel.mono HB2.out.size)
    obtain ⟨g, hg0', hg, hcc, c0, c1', c2, c3⟩ := (HA.out.below hB).row i hlt
    subst hg0'
    obtain ⟨gu, hgu0, hgu, hccu, n0, n1⟩ := (HV.out.below hB).row i (by omega)
    subst hgu0
    have hsn := HZ.out i hlt
    have hsv := HZ2.out i (by omega)
    have HSTEP : Hid (reachs az vs n (i + 1) = reachs az vs n i ++ rchAt az vs n i) := (rfl : reachs az vs n (i + 1) = reachs az vs n i ++ rchAt az vs n i)
    have HRC : Hid (rchAt az vs n i = (chainOf (cellOf (az.getD i at0) (vs.getD i vl0) n) n).map (gname (az.getD i at0).name)) := (rfl : rchAt az vs n i = (chainOf (cellOf (az.getD i at0) (vs.getD i vl0) n) n).map (gname (az.getD i at0).name))
    have hl1 := reachs_len az vs n i
    obtain ⟨x, hx⟩ : ∃ x, x = az.getD i at0 := ⟨_, rfl⟩
    obtain ⟨y, hy⟩ : ∃ y, y = vs.getD i vl0 := ⟨_, rfl⟩
    rw [← hx] at c0 c1' c2 c3 hsn HRC
    rw [← hy] at n0 n1 hsv HRC
    clear hx hy
    have HCL : Hid _ := fun W => rcell_any x y n W (by unfold maxLen; omega)
    generalize cellOf x y n = cc at *
    have HCH : Hid _ := fun W => rchainOf_any cc n W
    have hxl := chainOf_len cc n
    have HX : Hid _ := getD_i64 (chainOf_small cc n)
    generalize chainOf cc n = xs at *
    obtain ⟨old, hold⟩ : ∃ old, old = reachs az vs n i := ⟨_, rfl⟩
    rw [← hold] at R HSTEP hl1 ⊢
    clear hold
    obtain ⟨xn, xk, xm, xx⟩ := x
    obtain ⟨yn, ys⟩ := y
    simp only at c0 c1' c2 c3 hsn HRC n0 n1 hsv
    obtain ⟨W1, hW1⟩ : ∃ W1, W1 = wr.alloc (.cells #[.string xn, .int .i64 xk, .int .i64 xm, .int .i64 xx] 89) := ⟨_, rfl⟩
    have b1 : Below wr.heap.size wr W1 := by rw [hW1]; exact dbel1 _ _
    have f0 : W1.cell? ⟨wr.heap.size, 0, none⟩ = some (.string xn) := by rw [hW1]; simp
    have f1 : W1.cell? ⟨wr.heap.size, 1, none⟩ = some (.int .i64 xk) := by rw [hW1]; simp
    have f2 : W1.cell? ⟨wr.heap.size, 2, none⟩ = some (.int .i64 xm) := by rw [hW1]; simp
    have f3 : W1.cell? ⟨wr.heap.size, 3, none⟩ = some (.int .i64 xx) := by rw [hW1]; simp
    have v0 : W1.cell? ⟨gu, i * 2, none⟩ = some (.int .i64 yn) := cell_grown n0 b1
    have v1 : W1.cell? ⟨gu, i * 2 + 1, none⟩ = some (.string ys) := cell_grown n1 b1
    have R1 : Hid (StRow w2 W1 (.slice a1 old.length c1) old) := R.out.carry b1
    have HFAR : Hid ((Value.slice a1 old.length c1).ownBlock ≠ some wr.heap.size) := fun e => by have := (R.out.row.lt _ e).2; omega
    have ix : (0 : Int) ≤ (i : Int) ∧ (i : Int) < (vs.length : Int) := by omega
    have hX1 : wr.heap.size < W1.heap.size := cell_block f0
    have hgu1 : gu < W1.heap.size := cell_block v0
    clear b1 n0 n1 hB
    go_wp2_with fail
    rw [← hW1]
    clear hW1 c0 c1' c2 c3
    generalize wr.heap.size = X at *
    go_region_held3 (fun w' => w'.cell? ⟨X, 0, none⟩ = some (.string xn) ∧ w'.cell? ⟨X, 1, none⟩ = some (.int .i64 xk) ∧ w'.cell? ⟨X, 2, none⟩ = some (.int .i64 xm) ∧ w'.cell? ⟨X, 3, none⟩ = some (.int .i64 xx) ∧ w'.cell? ⟨gu, i * 2, none⟩ = some (.int .i64 yn) ∧ w'.cell? ⟨gu, i * 2 + 1, none⟩ = some (.string ys))
      (first
        | go_keep
        | assumption)
      (first
        | (go_at_call 53; refine Calls.mono (HCL.out _) ?_; rintro e w3 ⟨rfl, b3'⟩
           have b3 : Below W1.heap.size W1 w3 := ⟨b3'.os, b3'.tape, b3'.output, b3'.size, b3'.block⟩
           have R3 : Hid (StRow w2 w3 (.slice a1 old.length c1) old) := R1.out.carry b3
           have p0 := cell_grown f0 b3
           have p1 := cell_grown f1 b3
           have p2 := cell_grown f2 b3
           have p3 := cell_grown f3 b3
           have p4 := cell_grown v0 b3
           have p5 := cell_grown v1 b3
           clear b3' b3)
        | (go_at_call 52; refine Calls.mono (HCH.out _) ?_; rintro e w4 ⟨vv, rfl, r4'⟩
           have r4 : Hid (IvRow 29 w3 w4 vv xs) := ⟨r4'.row, ⟨r4'.bel.os, r4'.bel.tape, r4'.bel.output, r4'.bel.size, r4'.bel.block⟩⟩
           have s0 := cell_grown p0 r4.out.bel
           have s1 := cell_grown p1 r4.out.bel
           have s2 := cell_grown p2 r4.out.bel
           have s3 := cell_grown p3 r4.out.bel
           have s4 := cell_grown p4 r4.out.bel
           have s5 := cell_grown p5 r4.out.bel
           obtain ⟨av, cv, hvv, _⟩ := r4.out.isIn.shape
           subst hvv
           have R4 : Hid (Bx w2 w4 (.slice a1 old.length c1) (old ++ (xs.take 0).map (gname xn)) (.slice av xs.length cv) xs X xn) := by
             have hst := R3.out.carry r4.out.bel
             refine ⟨⟨by simpa using hst, (IvRow.rebase R3.out.bel r4.out).row, fun q hq hv => ?_⟩, s0, HFAR.out⟩
             have h1 := (R3.out.row.lt q hq).2
             have h2 := (r4.out.row.lt q hv).1
             omega
           clear r4'))
    all_goals
      have HLEN : Hid ((reachs az vs n (i + 1)).length = old.length + xs.length) := by rw [Hid, HSTEP.out, HRC.out, List.length_append, List.length_map]
      have HEND : Hid (reachs az vs n (i + 1) = old ++ (xs.take xs.length).map (gname xn)) := by rw [Hid, HSTEP.out, HRC.out, List.take_length]
      clear f0 f1 f2 f3 v0 v1 p0 p1 p2 p3 p4 p5 s0 s1 s2 s3 s4 s5 R1 R3 R r4 HCL HCH hX1 hgu1 ix hgu hg
      go_wp2
      go_loopg [11, 49] xs.length (fun kx s11 s49 wq => ∃ k : Nat, s49 = .int .i64 k ∧ k ≤ xs.length ∧ kx = xs.length - k ∧ (∃ a c, s11 = .slice a (old.length + k) c) ∧ Hid (Bx w2 wq s11 (old ++ (xs.take k).map (gname xn)) (.slice av xs.length cv) xs X xn))
      case atStart => exact ⟨0, rfl, Nat.zero_le _, rfl, ⟨_, _, rfl⟩, R4⟩
      case round =>
        obtain ⟨k, rfl, hk, rfl, ⟨a2, c2, rfl⟩, Q⟩ := hrel
        by_cases hkl : k < xs.length
        case neg =>
          obtain rfl : k = xs.length := by omega
          have HST : Hid (StRow w2 wr (.slice a2 (old.length + xs.length) c2) (reachs az vs n (i + 1))) := by rw [Hid, HEND.out]; exact Q.out.bo.st
          go_wp2
          go_roundg (az.length - (i + 1))
          case measure => omega
          case rel => exact ⟨i + 1, by go_num, by omega, rfl, ⟨a2, c2, by rw [HLEN.out]⟩, HST⟩
        obtain ⟨av', cv', hav, hsh⟩ := (IvIn.ofOwn Q.out.bo.iv).shape
        simp only [Value.slice.injEq, true_and] at hav
        obtain ⟨rfl, rfl⟩ := hav
        obtain ⟨g2, rfl, hg2, hcap, hj⟩ := hsh (by omega)
        obtain ⟨d0, d1⟩ := hj k hkl
        obtain ⟨x1, x2⟩ := HX.out k hkl
        have bx := Q.out.box
        have bxl : X < wr.heap.size := cell_block bx
        have HL : Hid ((old ++ (xs.take k).map (gname xn)).length = old.length + k) := (by rw [List.length_append, List.length_map, List.length_take]; omega : (old ++ (xs.take k).map (gname xn)).length = old.length + k)
        have HSN : Hid (old ++ (xs.take (k + 1)).map (gname xn) = (old ++ (xs.take k).map (gname xn)) ++ [gname xn (xs.getD k iv0)]) := (by rw [List.take_succ_eq_append_getElem hkl, List.map_append, List.map_singleton, List.append_assoc]; congr 4; simp [List.getD, hkl] : old ++ (xs.take (k + 1)).map (gname xn) = (old ++ (xs.take k).map (gname xn)) ++ [gname xn (xs.getD k iv0)])
        generalize xs.getD k iv0 = z at d0 d1 x1 x2 HSN
        have HN : Hid _ := fun W => rgname_any xn z W (by omega) x1 x2
        generalize old ++ (xs.take k).map (gname xn) = ss at *
        generalize gname xn z = nm at HN HSN
        clear hsh hj x1 x2
        go_wp2_with fail
        refine Calls.mono (HN.out _) ?_
        rintro e W8 ⟨rfl, b8⟩
        have Q8 : Hid (Bx w2 W8 (.slice a2 (old.length + k) c2) ss (.slice (some ⟨g2, 0, none⟩) xs.length cv) xs X xn) := (Q.out.carry (dbel1 _ _)).carry b8
        have HR : Hid (W8.ownsRow w2.heap.size 9 1 (.slice a2 (old.length + k) c2) (old.length + k) (stc ss)) := by
          have := Q8.out.bo.st.row; rw [HL.out] at this; exact this
        have hle8 := Q8.out.bo.st.le
        clear b8 d0 d1 bx bxl
        go_wp2_with (at_builtin; refine wpList_own_append _ rfl _ _ 62 62 rfl w2.heap.size 9 i0 _ 16 Tryz.underlying62 hi hz0 hz1 hz2' rfl _ (old.length + k) (stc ss) rfl (own_carryI HR.out (dbel1 _ _)) _ 1 (stc [nm]) rfl (src_St W8 nm _ rfl) ?c3 ?c4 ?c5 ?_)
        case c3 => unfold maxLen; omega
        case c4 => omega
        case c5 => simp; omega
        intro v' W9 hap
        have hsh9 := hap.shape
        have HS9 : Hid (Bx w2 W9 v' (old ++ (xs.take (k + 1)).map (gname xn)) (.slice (some ⟨g2, 0, none⟩) xs.length cv) xs X xn) := by
          rw [Hid, HSN.out]
          exact (Q8.out.carry (dbel1 W8 _)).step (by rw [HL.out]; exact hap)
        obtain ⟨a', cp', hv⟩ := hsh9
        subst hv
        clear hap
        go_wp2
        go_roundg (xs.length - (k + 1))
        case measure => omega
        case rel => exact ⟨k + 1, by go_num, by omega, rfl, ⟨_, _, rfl⟩, HS9⟩
end Go.Proofs.YtkkbhkpeglcodaaGreatDoor

/- group and the document's group, side by side: the same answer of the same schema, filter, event. -/
namespace Go.Proofs.YtkkbhkpeglcodaaGreatDoor
open Go.ChangeShapes Go.WideShapes Go.ChangeAt Go.RowKit
set_option linter.unusedVariables false

theorem Chk.uniq {az : List At} {L c c' : Int} (h : Chk az L c) (h' : Chk az L c') : c = c' := by
  rcases h with ⟨h0, h1⟩ | ⟨h0, h1, h2⟩
  · rcases h' with ⟨_, h3⟩ | ⟨h3, h4, _⟩
    · omega
    · omega
  · rcases h' with ⟨h3, _⟩ | ⟨_, _, h4⟩
    · omega
    · rcases h2 with ⟨q1, q2⟩ | ⟨q1, q2⟩
      · rcases h4 with ⟨_, q4⟩ | ⟨q3, _⟩
        · omega
        · exact absurd q1 q3
      · rcases h4 with ⟨q3, _⟩ | ⟨_, q4⟩
        · exact absurd q3 q1
        · omega
theorem ChkF.uniq {az : List At} {f : List Pd} {L c c' : Int} (h : ChkF az f L c) (h' : ChkF az f L c') : c = c' := by
  rcases h with ⟨h0, h1⟩ | ⟨h1, h2⟩
  · rcases h' with ⟨_, h3⟩ | ⟨h3, _⟩
    · exact h1.uniq h3
    · exact absurd (h1.uniq h3) h0
  · rcases h' with ⟨h3, h4⟩ | ⟨_, h4⟩
    · exact absurd (h4.uniq h1) h3
    · rcases h2 with ⟨q1, q2⟩ | ⟨q1, q2⟩
      · rcases h4 with ⟨_, q4⟩ | ⟨q3, _⟩
        · omega
        · exact absurd q1 q3
      · rcases h4 with ⟨q3, _⟩ | ⟨_, q4⟩
        · exact absurd q3 q1
        · omega
theorem ChkR.uniq {az : List At} {vs : List Vl} {m : Nat} {L c c' : Int} (h : ChkR az vs m L c) (h' : ChkR az vs m L c') : c = c' := by
  rcases h with ⟨h0, h1⟩ | ⟨h1, h2⟩
  · rcases h' with ⟨_, h3⟩ | ⟨h3, _⟩
    · exact h1.uniq h3
    · exact absurd (h1.uniq h3) h0
  · rcases h' with ⟨h3, h4⟩ | ⟨_, h4⟩
    · exact absurd (h4.uniq h1) h3
    · rcases h2 with ⟨q1, q2⟩ | ⟨q1, q2⟩
      · rcases h4 with ⟨_, q4⟩ | ⟨q3, _⟩
        · omega
        · exact absurd q1 q3
      · rcases h4 with ⟨q3, _⟩ | ⟨_, q4⟩
        · exact absurd q3 q1
        · omega
theorem ChkF.good {az : List At} {f : List Pd} {L : Int} (h : GoodF az f L) : ChkF az f L 0 :=
  Or.inr ⟨Or.inr ⟨h.1, h.2.1, Or.inl ⟨h.2.2.1, rfl⟩⟩, Or.inl ⟨h.2.2.2, rfl⟩⟩
theorem ChkR.good {az : List At} {vs : List Vl} {m : Nat} {L : Int} (h : GoodR az vs m L) : ChkR az vs m L 0 :=
  Or.inr ⟨Or.inr ⟨h.1, h.2.1, Or.inl ⟨h.2.2.1, rfl⟩⟩, Or.inl ⟨h.2.2.2, rfl⟩⟩
/-- No error and the code 0, or an error of that code. -/
def ErIs (w : World) (er : Value) (c : Int) : Prop := (er = .nilIface ∧ c = 0) ∨ (¬ c = 0 ∧ CodeIs w er c)
theorem ErIs.below {w w' : World} {er : Value} {c : Int} (h : ErIs w er c) (hb : Below w.heap.size w w') : ErIs w' er c := by
  rcases h with h | ⟨h, h1⟩
  · exact Or.inl h
  · exact Or.inr ⟨h, h1.below hb⟩
/-- The code of a filter's choice, of an event's way. -/
theorem codeF (az : List At) (f : List Pd) (L : Int) : ∃ c, ChkF az f L c := by
  by_cases h1 : L < 0 ∨ 8 < L
  · exact ⟨1, Or.inl ⟨by omega, Or.inl ⟨h1, rfl⟩⟩⟩
  · by_cases h2 : SchemaOk az
    · have hc : Chk az L 0 := Or.inr ⟨by omega, by omega, Or.inl ⟨h2, rfl⟩⟩
      by_cases h3 : FilterOk az f
      · exact ⟨0, Or.inr ⟨hc, Or.inl ⟨h3, rfl⟩⟩⟩
      · exact ⟨3, Or.inr ⟨hc, Or.inr ⟨h3, rfl⟩⟩⟩
    · exact ⟨3, Or.inl ⟨by omega, Or.inr ⟨by omega, by omega, Or.inr ⟨h2, rfl⟩⟩⟩⟩
theorem codeR (az : List At) (vs : List Vl) (m : Nat) (L : Int) : ∃ c, ChkR az vs m L c := by
  by_cases h1 : L < 0 ∨ 8 < L
  · exact ⟨1, Or.inl ⟨by omega, Or.inl ⟨h1, rfl⟩⟩⟩
  · by_cases h2 : SchemaOk az
    · have hc : Chk az L 0 := Or.inr ⟨by omega, by omega, Or.inl ⟨h2, rfl⟩⟩
      by_cases h3 : EventOk az vs m
      · exact ⟨0, Or.inr ⟨hc, Or.inl ⟨h3, rfl⟩⟩⟩
      · exact ⟨3, Or.inr ⟨hc, Or.inr ⟨h3, rfl⟩⟩⟩
    · exact ⟨3, Or.inl ⟨by omega, Or.inr ⟨by omega, by omega, Or.inr ⟨h2, rfl⟩⟩⟩⟩
open Classical in
/-- The place that is chosen, the groups of a filter, of an event, as lists. -/
theorem choose_two (az : List At) (f : List Pd) (L : Int) (hl : az.length ≤ 1000) (hl2 : f.length ≤ 1000) (hz : ∀ i, i < az.length → (az.getD i at0).name.size ≤ maxLen) (hz2 : ∀ i, i < f.length → (f.getD i pd0).str.size ≤ 1000 ∧ (f.getD i pd0).name.size ≤ 1000) :
    ∃ (b c : Int) (ss : List ByteArray), ss.length ≤ 1000 ∧
      (∀ W p g, AtIn W p az → PdIn W g f → Calls Tryz.prog 17 #[p, g, .int .i64 L] W fun e w' => ∃ er, e = .returned (.tuple #[.int .i64 b, er]) ∧ ErIs w' er c ∧ Below W.heap.size W w') ∧
      (∀ W p g, AtIn W p az → PdIn W g f → Calls Tryz.prog 18 #[p, g, .int .i64 L] W fun e w' => e = .returned (.tuple #[.int .i64 b, .int .i64 c]) ∧ Below W.heap.size W w') ∧
      (∀ W p g, GEnv W → AtIn W p az → PdIn W g f → Calls Tryz.prog 19 #[p, g, .int .i64 L] W fun e w' => ∃ v er, e = .returned (.tuple #[v, er]) ∧ StIn w' v ss ∧ ErIs w' er c ∧ Below W.heap.size W w') ∧
      (∀ W p g, AtIn W p az → PdIn W g f → Calls Tryz.prog 20 #[p, g, .int .i64 L] W fun e w' => ∃ v, e = .returned (.tuple #[v, .int .i64 c]) ∧ StIn w' v ss ∧ Below W.heap.size W w') := by
  obtain ⟨c, hc⟩ := codeF az f L
  by_cases hG : GoodF az f L
  · obtain rfl : c = 0 := hc.uniq (ChkF.good hG)
    obtain ⟨b, hb⟩ : ∃ b : Nat, ∀ (n b' : Nat), L = n → Best az f n b' → b' = b := by
      by_cases hex : ∃ n b : Nat, L = n ∧ Best az f n b
      · obtain ⟨n, b, e1, h1⟩ := hex
        refine ⟨b, fun n' b' e2 h2 => ?_⟩
        obtain rfl : n = n' := by omega
        exact h2.uniq h1
      · exact ⟨0, fun n' b' e2 h2 => absurd ⟨n', b', e2, h2⟩ hex⟩
    refine ⟨b, 0, ofs az f L b, by unfold ofs; rw [List.length_map]; exact cover_len1000 _ _ _, fun W p g hA hP => ?_, fun W p g hA hP => ?_, fun W p g hE hA hP => ?_, fun W p g hA hP => ?_⟩
    · refine (choose_of p g az f L W hA hP hl hl2 hz (fun i hi => (hz2 i hi).1)).mono ?_
      rintro e w' ⟨⟨n, b', e1, rfl, _, h2⟩ | ⟨t, u, rfl, h2⟩, hb'⟩
      · rw [hb n b' e1 h2]
        exact ⟨_, rfl, Or.inl ⟨rfl, rfl⟩, hb'⟩
      · exact absurd hG h2
    · refine (rchoose8_any p g az f L W hA hP hl hl2 hz (fun i hi => (hz2 i hi).1)).mono ?_
      rintro e w' ⟨⟨n, b', e1, rfl, _, h2⟩ | ⟨c', rfl, h2, h3⟩, hb'⟩
      · rw [hb n b' e1 h2]
        exact ⟨rfl, hb'⟩
      · exact absurd (h3.uniq hc) h2
    · refine (of_of p g az f L W hE hA hP hl hl2 hz hz2).mono ?_
      rintro e w' ⟨⟨n, b', v, e1, rfl, _, h2, h3⟩ | ⟨t, u, rfl, h2⟩, hb'⟩
      · rw [hb n b' e1 h2] at h3
        exact ⟨_, _, rfl, h3.isIn, Or.inl ⟨rfl, rfl⟩, hb'⟩
      · exact absurd hG h2
    · refine (rof8_any p g az f L W hA hP hl hl2 hz hz2).mono ?_
      rintro e w' ⟨⟨n, b', v, e1, rfl, _, h2, h3⟩ | ⟨c', rfl, h2, h3⟩, hb'⟩
      · rw [hb n b' e1 h2] at h3
        exact ⟨_, rfl, h3.isIn, hb'⟩
      · exact absurd (h3.uniq hc) h2
  · refine ⟨-1, c, [], by simp, fun W p g hA hP => ?_, fun W p g hA hP => ?_, fun W p g hE hA hP => ?_, fun W p g hA hP => ?_⟩
    · refine (choose_bad p g az f L W hA hP hl hl2 hz (fun i hi => (hz2 i hi).1) hG).mono ?_
      rintro e w' ⟨⟨er, c', rfl, h1, h2, h3⟩, hb'⟩
      obtain rfl := h2.uniq hc
      exact ⟨_, rfl, Or.inr ⟨h1, h3⟩, hb'⟩
    · refine (rchoose8_any p g az f L W hA hP hl hl2 hz (fun i hi => (hz2 i hi).1)).mono ?_
      rintro e w' ⟨⟨n, b', e1, rfl, h1, h2⟩ | ⟨c', rfl, h2, h3⟩, hb'⟩
      · exact absurd h1 hG
      · obtain rfl := h3.uniq hc
        exact ⟨rfl, hb'⟩
    · refine (of_bad p g az f L W hA hP hl hl2 hz (fun i hi => (hz2 i hi).1) hG).mono ?_
      rintro e w' ⟨⟨er, c', rfl, h1, h2, h3⟩, hb'⟩
      obtain rfl := h2.uniq hc
      exact ⟨_, _, rfl, (StRow.nil w' w' (Below.refl _ _)).isIn, Or.inr ⟨h1, h3⟩, hb'⟩
    · refine (rof8_any p g az f L W hA hP hl hl2 hz hz2).mono ?_
      rintro e w' ⟨⟨n, b', v, e1, rfl, h1, h2, h3⟩ | ⟨c', rfl, h2, h3⟩, hb'⟩
      · exact absurd h1 hG
      · obtain rfl := h3.uniq hc
        exact ⟨_, rfl, (StRow.nil w' w' (Below.refl _ _)).isIn, hb'⟩
theorem reach_two (az : List At) (vs : List Vl) (pay : ByteArray) (L : Int) (hl : az.length ≤ 1000) (hl2 : vs.length ≤ 1000) (hp : pay.size ≤ 1000000) (hz : ∀ i, i < az.length → (az.getD i at0).name.size ≤ 1000) (hz2 : ∀ i, i < vs.length → (vs.getD i vl0).str.size ≤ 1000) :
    ∃ (c : Int) (ss : List ByteArray), ss.length ≤ 1000 ∧
      (∀ W p u, GEnv W → AtIn W p az → VlIn W u vs → Calls Tryz.prog 21 #[p, .agg #[u, .string pay], .int .i64 L] W fun e w' => ∃ v er, e = .returned (.tuple #[v, er]) ∧ StIn w' v ss ∧ ErIs w' er c ∧ Below W.heap.size W w') ∧
      (∀ W p u, AtIn W p az → VlIn W u vs → Calls Tryz.prog 22 #[p, u, .int .i64 (pay.size : Int), .int .i64 L] W fun e w' => ∃ v, e = .returned (.tuple #[v, .int .i64 c]) ∧ StIn w' v ss ∧ Below W.heap.size W w') := by
  obtain ⟨c, hc⟩ := codeR az vs pay.size L
  have hp' : pay.size ≤ maxLen := by unfold maxLen; omega
  by_cases hG : GoodR az vs pay.size L
  · obtain rfl : c = 0 := hc.uniq (ChkR.good hG)
    refine ⟨0, reachs az vs L az.length, by have h1 := reachs_len az vs L az.length; have h2 := hG.2.2.1.2.1; omega, fun W p u hE hA hV => ?_, fun W p u hA hV => ?_⟩
    · refine (reach_of p u az vs pay L W hE hA hV hl hl2 hp' hz hz2).mono ?_
      rintro e w' ⟨⟨v, rfl, _, h3⟩ | ⟨t, u, rfl, h2⟩, hb'⟩
      · exact ⟨_, _, rfl, h3.isIn, Or.inl ⟨rfl, rfl⟩, hb'⟩
      · exact absurd hG h2
    · refine (rreach8_any p u az vs pay.size L W hA hV hl hl2 hp hz hz2).mono ?_
      rintro e w' ⟨⟨v, rfl, _, h3⟩ | ⟨c', rfl, h2, h3⟩, hb'⟩
      · exact ⟨_, rfl, h3.isIn, hb'⟩
      · exact absurd (h3.uniq hc) h2
  · refine ⟨c, [], by simp, fun W p u hE hA hV => ?_, fun W p u hA hV => ?_⟩
    · refine (reach_bad p u az vs pay L W hA hV hl hl2 hp' hz hz2 hG).mono ?_
      rintro e w' ⟨⟨er, c', rfl, h1, h2, h3⟩, hb'⟩
      obtain rfl := h2.uniq hc
      exact ⟨_, _, rfl, (StRow.nil w' w' (Below.refl _ _)).isIn, Or.inr ⟨h1, h3⟩, hb'⟩
    · refine (rreach8_any p u az vs pay.size L W hA hV hl hl2 hp hz hz2).mono ?_
      rintro e w' ⟨⟨v, rfl, h1, h3⟩ | ⟨c', rfl, h2, h3⟩, hb'⟩
      · exact absurd h1 hG
      · obtain rfl := h3.uniq hc
        exact ⟨_, rfl, (StRow.nil w' w' (Below.refl _ _)).isIn, hb'⟩
end Go.Proofs.YtkkbhkpeglcodaaGreatDoor

/- api.Of of a bare code is the code: errors.As is walked. -/
namespace Go.Proofs.YtkkbhkpeglcodaaGreatDoor
open Go.ChangeShapes Go.WideShapes Go.ChangeAt Go.RowKit Go.Extern.Stop Go.Stop Go.Extern
set_option linter.unusedVariables false

theorem valueOfP (t : Addr) (w : World) : Sem.run Tryz.prog (callFunc 79 #[.iface 112 (.pointer (some t))]) w
    = .ok (.value (.agg #[.pointer (some ⟨7, 112, none⟩), .pointer (some ⟨w.heap.size, 0, none⟩), .int .u64 150])) (w.alloc (.cells #[.pointer (some t)] 112)) := by
  rw [@run_callFunc_extern Tryz.prog 79 _ (fun args => ReflectliteValue.unpack (args.getD 0 (.tuple #[]))) Tryz.func79 (by kernel_rfl) (by kernel_rfl) (by kernel_rfl) (by kernel_rfl)]
  kernel_rfl
theorem valueOfC (c : Int) (w : World) : Sem.run Tryz.prog (callFunc 79 #[.iface 40 (.int .i64 c)]) w
    = .ok (.value (.agg #[.pointer (some ⟨7, 40, none⟩), .pointer (some ⟨w.heap.size, 0, none⟩), .int .u64 130])) (w.alloc (.cells #[.int .i64 c] 40)) := by
  rw [@run_callFunc_extern Tryz.prog 79 _ (fun args => ReflectliteValue.unpack (args.getD 0 (.tuple #[]))) Tryz.func79 (by kernel_rfl) (by kernel_rfl) (by kernel_rfl) (by kernel_rfl)]
  kernel_rfl
theorem typeOfV (a : Addr) (w : World) : Sem.run Tryz.prog (callFunc 80 #[.agg #[.pointer (some ⟨7, 112, none⟩), .pointer (some a), .int .u64 150]]) w
    = .ok (.value (.iface 118 (.agg #[.pointer (some ⟨7, 112, none⟩)]))) w := by
  rw [@run_callFunc_extern Tryz.prog 80 _ (ReflectliteValue.methodAny (ReflectliteValue.valueError "reflectlite.Value.Type" 0) (fun t _ _ _ => ReflectliteType.toType t)) Tryz.func80 (by kernel_rfl) (by kernel_rfl) (by kernel_rfl) (by kernel_rfl)]
  kernel_rfl
theorem m_kind (h : Value) (w : World) : (Go.method 331 118 (.agg #[h]) "Kind").run Tryz.prog w = .ok (135, h) w := by kernel_rfl
theorem kindP (w : World) : Sem.run Tryz.prog (callFunc 135 #[.pointer (some ⟨7, 112, none⟩)]) w = .ok (.value (.int .u8 22)) w := by
  rw [@run_callFunc_extern Tryz.prog 135 _ (ReflectliteType.abiMethod fun t => do pure (.int .u8 (← Rtype.kind t))) Tryz.func135 (by kernel_rfl) (by kernel_rfl) (by kernel_rfl) (by kernel_rfl)]
  kernel_rfl
theorem kindC (w : World) : Sem.run Tryz.prog (callFunc 135 #[.pointer (some ⟨7, 40, none⟩)]) w = .ok (.value (.int .u8 2)) w := by
  rw [@run_callFunc_extern Tryz.prog 135 _ (ReflectliteType.abiMethod fun t => do pure (.int .u8 (← Rtype.kind t))) Tryz.func135 (by kernel_rfl) (by kernel_rfl) (by kernel_rfl) (by kernel_rfl)]
  kernel_rfl
theorem m_elem (h : Value) (w : World) : (Go.method 331 118 (.agg #[h]) "Elem").run Tryz.prog w = .ok (142, .agg #[h]) w := by kernel_rfl
theorem m_impl (h : Value) (w : World) : (Go.method 331 118 (.agg #[h]) "Implements").run Tryz.prog w = .ok (143, .agg #[h]) w := by kernel_rfl
theorem m_assign (h : Value) (w : World) : (Go.method 331 118 (.agg #[h]) "AssignableTo").run Tryz.prog w = .ok (140, .agg #[h]) w := by kernel_rfl
theorem elemT (w : World) : Sem.run Tryz.prog (callFunc 142 #[.agg #[.pointer (some ⟨7, 112, none⟩)]]) w = .ok (.value (.iface 118 (.agg #[.pointer (some ⟨7, 40, none⟩)]))) w := by
  rw [@run_callFunc_extern Tryz.prog 142 _ (ReflectliteType.method ReflectliteType.elem) Tryz.func142 (by kernel_rfl) (by kernel_rfl) (by kernel_rfl) (by kernel_rfl)]
  kernel_rfl
theorem implT (w : World) : Sem.run Tryz.prog (callFunc 143 #[.agg #[.pointer (some ⟨7, 40, none⟩)], .iface 118 (.agg #[.pointer (some ⟨7, 26, none⟩)])]) w = .ok (.value (.bool true)) w := by
  rw [@run_callFunc_extern Tryz.prog 143 _ (ReflectliteType.relation "Implements" ReflectliteType.implements_) Tryz.func143 (by kernel_rfl) (by kernel_rfl) (by kernel_rfl) (by kernel_rfl)]
  kernel_rfl
theorem assignC (w : World) : Sem.run Tryz.prog (callFunc 140 #[.agg #[.pointer (some ⟨7, 40, none⟩)], .iface 118 (.agg #[.pointer (some ⟨7, 40, none⟩)])]) w = .ok (.value (.bool true)) w := by
  rw [@run_callFunc_extern Tryz.prog 140 _ (ReflectliteType.relation "AssignableTo" ReflectliteType.assignableTo) Tryz.func140 (by kernel_rfl) (by kernel_rfl) (by kernel_rfl) (by kernel_rfl)]
  kernel_rfl

theorem rlm (z : Sem Value) (f : TypeId → Addr → Nat → Nat → Sem Value) (v : Value) :
    ReflectliteValue.method z f #[v] = (do match ← ReflectliteValue.parts v with | none => z | some (t, a, fl) => f t a fl (fl % 32)) := rfl
theorem partsP (a : Addr) (w : World) : (ReflectliteValue.parts (.agg #[.pointer (some ⟨7, 112, none⟩), .pointer (some a), .int .u64 150])).run Tryz.prog w = .ok (some (112, a, 150)) w := by kernel_rfl
theorem isNilP (a p : Addr) (W : World) (ha : W.cell? a = some (.pointer (some p))) :
    Sem.run Tryz.prog (callFunc 81 #[.agg #[.pointer (some ⟨7, 112, none⟩), .pointer (some a), .int .u64 150]]) W = .ok (.value (.bool false)) W := by
  rw [@run_callFunc_extern Tryz.prog 81 _ (ReflectliteValue.method (ReflectliteValue.valueError "reflectlite.Value.IsNil" 0) ReflectliteValue.isNil) Tryz.func81 (by kernel_rfl) (by kernel_rfl) (by kernel_rfl) (by kernel_rfl)]
  rw [rlm]
  simp only [Sem.run_bind, partsP, Result.andThen]
  simp [ReflectliteValue.isNil, loadVar, isAgg, underlying, Tryz.underlying112, ha, Result.andThen]
theorem elemOfP (w : World) : (Rtype.elem? 112).run Tryz.prog w = .ok (some 40) w := by kernel_rfl
theorem mkC (p : Addr) (w : World) : (ReflectliteValue.mk 40 p ReflectliteValue.flagAddr).run Tryz.prog w = .ok (.agg #[.pointer (some ⟨7, 40, none⟩), .pointer (some p), .int .u64 386]) w := by kernel_rfl
theorem elemV (a p : Addr) (W : World) (ha : W.cell? a = some (.pointer (some p))) :
    Sem.run Tryz.prog (callFunc 97 #[.agg #[.pointer (some ⟨7, 112, none⟩), .pointer (some a), .int .u64 150]]) W
      = .ok (.value (.agg #[.pointer (some ⟨7, 40, none⟩), .pointer (some p), .int .u64 386])) W := by
  rw [@run_callFunc_extern Tryz.prog 97 _ (ReflectliteValue.method (ReflectliteValue.valueError "reflectlite.Value.Elem" 0) ReflectliteValue.elem) Tryz.func97 (by kernel_rfl) (by kernel_rfl) (by kernel_rfl) (by kernel_rfl)]
  rw [rlm]
  simp only [Sem.run_bind, partsP, Result.andThen]
  simp [ReflectliteValue.elem, loadVar, isAgg, underlying, Tryz.underlying112, ha, Result.andThen, elemOfP, mkC]
theorem rls (v x : Value) : ReflectliteValue.set #[v, x] = (do
    let (some (dst, a, fl), some (src, b, _)) := (← ReflectliteValue.parts v, ← ReflectliteValue.parts x)
      | unsupported (.noEntry "extern/(internal/reflectlite.Value).Set.zeroValue")
    if fl / ReflectliteValue.flagAddr % 2 == 0 then unsupported (.noEntry "extern/(internal/reflectlite.Value).Set.unaddressable")
    let val ← loadVar src b
    if ← Rtype.directlyAssignable dst src then storeVar dst a val
    else if ← Rtype.implements dst src then
      if (← Rtype.kind src) == 20 then
        match val with
        | .nilIface => unsupported (.noEntry "extern/reflectlite: a nil value of one interface type handed on as a value of another")
        | _ => storeVar dst a val
      else storeVar dst a (.iface src val)
    else panicString ("reflectlite.Set: value of type " ++ (← Rtype.spelt src) ++ " is not assignable to type " ++ (← Rtype.spelt dst))
    pure (.tuple #[])) := rfl
theorem partsCa (a : Addr) (w : World) : (ReflectliteValue.parts (.agg #[.pointer (some ⟨7, 40, none⟩), .pointer (some a), .int .u64 386])).run Tryz.prog w = .ok (some (40, a, 386)) w := by kernel_rfl
theorem partsC (a : Addr) (w : World) : (ReflectliteValue.parts (.agg #[.pointer (some ⟨7, 40, none⟩), .pointer (some a), .int .u64 130])).run Tryz.prog w = .ok (some (40, a, 130)) w := by kernel_rfl
theorem directC (w : World) : (Rtype.directlyAssignable 40 40).run Tryz.prog w = .ok true w := by kernel_rfl
theorem setC (ta b : Addr) (c : Int) (old : Value) (W : World) (hb : W.cell? b = some (.int .i64 c)) (ht : W.cell? ta = some old) (hf : W.frozen? ta = false) :
    Sem.run Tryz.prog (callFunc 98 #[.agg #[.pointer (some ⟨7, 40, none⟩), .pointer (some ta), .int .u64 386], .agg #[.pointer (some ⟨7, 40, none⟩), .pointer (some b), .int .u64 130]]) W
      = .ok (.value (.tuple #[])) (W.setCell ta (.int .i64 c)) := by
  rw [@run_callFunc_extern Tryz.prog 98 _ ReflectliteValue.set Tryz.func98 (by kernel_rfl) (by kernel_rfl) (by kernel_rfl) (by kernel_rfl)]
  rw [rls]
  simp only [Sem.run_bind, partsCa, partsC, Result.andThen]
  simp [ReflectliteValue.flagAddr, loadVar, isAgg, underlying, Tryz.underlying40, hb, Result.andThen, directC, storeVar, Value.cells, storeCells, Addr.add]
  rw [run_store Tryz.prog W ta _ _ (by rfl)]
  simp [ht, hf]

/-- errors.errorType holds error's type. -/
def ErrType (w : World) : Prop := w.cell? ⟨0, 0, none⟩ = some (.iface 118 (.agg #[.pointer (some ⟨7, 26, none⟩)]))

theorem ErrType.lt {w : World} (h : ErrType w) : 0 < w.heap.size := by
  rcases Nat.eq_zero_or_pos w.heap.size with h0 | h1
  · unfold ErrType at h; simp [World.cell?, h0] at h
  · exact h1
theorem ErrType.below {w w' : World} {B : Nat} (h : ErrType w) (hB : 0 < B) (hb : Below B w w') : ErrType w' := by
  unfold ErrType at *
  rw [← h]; exact World.cell?_of_block (hb.block 0 hB)


theorem of_nil (w : World) : Calls Tryz.prog 23 #[.nilIface] w fun e w' => e = .returned (.int .i64 0) ∧ w' = w := by
  go_enter Tryz.func23, Tryz.ntmps23
  go_wp2
  go_ret
  exact ⟨rfl, rfl⟩


theorem typeOfC4 (v : Value) (w : World) : Sem.run Tryz.prog (callFunc 35 #[.iface 40 v]) w = .ok (.value (.iface 118 (.agg #[.pointer (some ⟨7, 40, none⟩)]))) w := by
  rw [@run_callFunc_extern Tryz.prog 35 _ Extern.ReflectliteType.typeOf Tryz.func35 (by kernel_rfl) (by kernel_rfl) (by kernel_rfl) (by kernel_rfl)]
  kernel_rfl

set_option maxHeartbeats 4000000 in
theorem as_code (tb : Nat) (c : Int) (old : Value) (w : World) (hg : ErrType w) (ht0 : w.cell? ⟨tb, 0, none⟩ = some old) (hf0 : w.frozen? ⟨tb, 0, none⟩ = false) :
    Calls Tryz.prog 54 #[.iface 40 (.int .i64 c), .iface 112 (.pointer (some ⟨tb, 0, none⟩))] w fun ev w' => ev = .returned (.bool true) ∧
      w' = ((((w.alloc (.cells #[.pointer (some ⟨tb, 0, none⟩)] 112)).alloc (.cells #[.pointer (some ⟨7, 112, none⟩), .pointer (some ⟨w.heap.size, 0, none⟩), .int .u64 150] 148)).alloc (.cells #[.pointer (some ⟨7, 112, none⟩), .pointer (some ⟨w.heap.size, 0, none⟩), .int .u64 150] 148)).alloc (.cells #[.int .i64 c] 40)).setCell ⟨tb, 0, none⟩ (.int .i64 c) := by
  have hlt := hg.lt
  have hg0 : w.cell? ⟨0, 0, none⟩ = some (.iface 118 (.agg #[.pointer (some ⟨7, 26, none⟩)])) := hg
  clear hg
  have h1 := valueOfP
  have h2 := valueOfC
  have h3 := typeOfV
  have h4 := m_kind
  have h5 := kindP
  have h6 := kindC
  have h7 := m_elem
  have h8 := m_impl
  have h9 := m_assign
  have h10 := elemT
  have h11 := implT
  have h14 := assignC
  have h18 := typeOfC4
  have htl : tb < w.heap.size := by
    rcases Nat.lt_or_ge tb w.heap.size with h | h
    · exact h
    · simp [World.cell?, Array.getElem?_eq_none h] at ht0
  obtain ⟨A, hA⟩ : ∃ A, A = Obj.cells #[.pointer (some ⟨tb, 0, none⟩)] 112 := ⟨_, rfl⟩
  obtain ⟨V, hV⟩ : ∃ V, V = Obj.cells #[.pointer (some ⟨7, 112, none⟩), .pointer (some ⟨w.heap.size, 0, none⟩), .int .u64 150] 148 := ⟨_, rfl⟩
  obtain ⟨D, hD⟩ : ∃ D, D = Obj.cells #[.int .i64 c] 40 := ⟨_, rfl⟩
  have n8 := isNilP ⟨w.heap.size, 0, none⟩ ⟨tb, 0, none⟩ ((w.alloc A).alloc V) (by rw [World.cell?_alloc_lt _ _ ⟨w.heap.size, 0, none⟩ (by simp), hA]; simp)
  have hg2 : ((w.alloc A).alloc V).cell? ⟨0, 0, none⟩ = some (.iface 118 (.agg #[.pointer (some ⟨7, 26, none⟩)])) := by
    rw [World.cell?_alloc_lt _ _ ⟨0, 0, none⟩ (by simp), World.cell?_alloc_lt _ _ ⟨0, 0, none⟩ hlt]; exact hg0
  have el := elemV ⟨w.heap.size, 0, none⟩ ⟨tb, 0, none⟩ (((w.alloc A).alloc V).alloc V) (by rw [World.cell?_alloc_lt _ _ ⟨w.heap.size, 0, none⟩ (by simp; omega), World.cell?_alloc_lt _ _ ⟨w.heap.size, 0, none⟩ (by simp), hA]; simp)
  have st := setC ⟨tb, 0, none⟩ ⟨w.heap.size + 1 + 1 + 1, 0, none⟩ c old ((((w.alloc A).alloc V).alloc V).alloc D)
    (by rw [hD, World.cell?_alloc_at _ _ _ _ (by simp)]; rfl)
    (by rw [World.cell?_alloc_lt _ _ ⟨tb, 0, none⟩ (by simp; omega), World.cell?_alloc_lt _ _ ⟨tb, 0, none⟩ (by simp; omega), World.cell?_alloc_lt _ _ ⟨tb, 0, none⟩ (by simp; omega), World.cell?_alloc_lt _ _ ⟨tb, 0, none⟩ htl]; exact ht0)
    (by rw [World.frozen?_alloc_old _ _ ⟨tb, 0, none⟩ (by simp; omega), World.frozen?_alloc_old _ _ ⟨tb, 0, none⟩ (by simp; omega), World.frozen?_alloc_old _ _ ⟨tb, 0, none⟩ (by simp; omega), World.frozen?_alloc_old _ _ ⟨tb, 0, none⟩ (Nat.ne_of_lt htl)]; exact hf0)
  subst hA hV hD
  clear hg0
  go_enter Tryz.func54, Tryz.ntmps54
  go_wp2
  refine wp_loop_rounds 1 ?_
  rw [rounds_succ]
  go_wp2
  go_ret
  exact ⟨rfl, rfl⟩

theorem of_code (c : Int) (w : World) (hg : ErrType w) :
    Calls Tryz.prog 23 #[.iface 40 (.int .i64 c)] w fun e w' => e = .returned (.int .i64 c) ∧ Below w.heap.size w w' := by
  have hlt := hg.lt
  have hg1 : ErrType (w.alloc (.cells #[.int .i64 0] 40)) := hg.below hlt ((Below.refl _ _).alloc (Nat.le_refl _) _)
  go_enter Tryz.func23, Tryz.ntmps23
  go_wp2_with fail
  refine (as_code w.heap.size c (.int .i64 0) _ hg1 (by simp) (by simp)).mono ?_
  rintro e w' ⟨rfl, hw'⟩
  have hb : Below w.heap.size w w' := by
    rw [hw']
    refine Below.setCell (((((Below.refl _ _).alloc (Nat.le_refl _) _).alloc (by simp) _).alloc (by simp; omega) _).alloc (by simp; omega) _ |>.alloc (by simp; omega) _) (Nat.le_refl _) _
  have hcell : w'.cell? ⟨w.heap.size, 0, none⟩ = some (.int .i64 c) := by
    rw [hw']
    refine World.cell?_setCell_same' _ _ _ ?_
    rw [World.cell?_alloc_lt _ _ ⟨w.heap.size, 0, none⟩ (by simp; omega), World.cell?_alloc_lt _ _ ⟨w.heap.size, 0, none⟩ (by simp; omega), World.cell?_alloc_lt _ _ ⟨w.heap.size, 0, none⟩ (by simp; omega), World.cell?_alloc_lt _ _ ⟨w.heap.size, 0, none⟩ (by simp)]
    simp
  clear hw'
  go_wp2
  go_ret
  exact ⟨rfl, hb⟩
end Go.Proofs.YtkkbhkpeglcodaaGreatDoor

/- api.Of of a code, or of a fault that bears one. -/
namespace Go.Proofs.YtkkbhkpeglcodaaGreatDoor
open Go.ChangeShapes Go.WideShapes Go.ChangeAt Go.RowKit Go.Extern.Stop Go.Stop Go.Extern
set_option linter.unusedVariables false

theorem typeOfF (v : Value) (w : World) : Sem.run Tryz.prog (callFunc 35 #[.iface 164 v]) w = .ok (.value (.iface 118 (.agg #[.pointer (some ⟨7, 164, none⟩)]))) w := by
  rw [@run_callFunc_extern Tryz.prog 35 _ Extern.ReflectliteType.typeOf Tryz.func35 (by kernel_rfl) (by kernel_rfl) (by kernel_rfl) (by kernel_rfl)]
  kernel_rfl
theorem assignF (w : World) : Sem.run Tryz.prog (callFunc 140 #[.agg #[.pointer (some ⟨7, 164, none⟩)], .iface 118 (.agg #[.pointer (some ⟨7, 40, none⟩)])]) w = .ok (.value (.bool false)) w := by
  rw [@run_callFunc_extern Tryz.prog 140 _ (ReflectliteType.relation "AssignableTo" ReflectliteType.assignableTo) Tryz.func140 (by kernel_rfl) (by kernel_rfl) (by kernel_rfl) (by kernel_rfl)]
  kernel_rfl
theorem no_as_f (v : Value) (xT : TypeId) (w : World) : (Instr.typeAssert (.iface 164 v) xT 173 true).run Tryz.prog w = .ok (.tuple #[.nilIface, .bool false]) w := run_typeAssert_lacksB Tryz.underlying173 (by kernel_rfl) (by kernel_rfl) v xT w

theorem has_unwrapG (v : Value) (xT : TypeId) (w : World) : (Instr.typeAssert (.iface 164 v) xT 123 true).run Tryz.prog w = .ok (.tuple #[.iface 164 v, .bool true]) w := run_typeAssert_hasB Tryz.underlying123 (by kernel_rfl) v xT w
theorem unwrap_methodG (v : Value) (w : World) : (Go.method 331 164 v "Unwrap").run Tryz.prog w = .ok (157, v) w := by kernel_rfl
set_option maxRecDepth 100000 in
set_option maxHeartbeats 4000000 in
theorem as_faultG (g tb : Nat) (c : Int) (old : Value) (w : World) (hg : ErrType w) (ht0 : w.cell? ⟨tb, 0, none⟩ = some old) (hf0 : w.frozen? ⟨tb, 0, none⟩ = false) (hc : w.cell? ⟨g, 2, none⟩ = some (.iface 40 (.int .i64 c))) :
    Calls Tryz.prog 54 #[.iface 164 (.pointer (some ⟨g, 0, none⟩)), .iface 112 (.pointer (some ⟨tb, 0, none⟩))] w fun ev w' => ev = .returned (.bool true) ∧
      w' = ((((w.alloc (.cells #[.pointer (some ⟨tb, 0, none⟩)] 112)).alloc (.cells #[.pointer (some ⟨7, 112, none⟩), .pointer (some ⟨w.heap.size, 0, none⟩), .int .u64 150] 148)).alloc (.cells #[.pointer (some ⟨7, 112, none⟩), .pointer (some ⟨w.heap.size, 0, none⟩), .int .u64 150] 148)).alloc (.cells #[.int .i64 c] 40)).setCell ⟨tb, 0, none⟩ (.int .i64 c) := by
  have hlt := hg.lt
  have hg0 : w.cell? ⟨0, 0, none⟩ = some (.iface 118 (.agg #[.pointer (some ⟨7, 26, none⟩)])) := hg
  clear hg
  have h1 := valueOfP
  have h2 := valueOfC
  have h3 := typeOfV
  have h4 := m_kind
  have h5 := kindP
  have h6 := kindC
  have h7 := m_elem
  have h8 := m_impl
  have h9 := m_assign
  have h10 := elemT
  have h11 := implT
  have h12 := typeOfF
  have h13 := assignF
  have h14 := assignC
  have h15 := no_as_f
  have h16 := has_unwrapG
  have h17 := unwrap_methodG
  have h18 := typeOfC4
  have htl : tb < w.heap.size := by
    rcases Nat.lt_or_ge tb w.heap.size with h | h
    · exact h
    · simp [World.cell?, Array.getElem?_eq_none h] at ht0
  have hgl : g < w.heap.size := by
    rcases Nat.lt_or_ge g w.heap.size with h | h
    · exact h
    · simp [World.cell?, Array.getElem?_eq_none h] at hc
  obtain ⟨A, hA⟩ : ∃ A, A = Obj.cells #[.pointer (some ⟨tb, 0, none⟩)] 112 := ⟨_, rfl⟩
  obtain ⟨V, hV⟩ : ∃ V, V = Obj.cells #[.pointer (some ⟨7, 112, none⟩), .pointer (some ⟨w.heap.size, 0, none⟩), .int .u64 150] 148 := ⟨_, rfl⟩
  obtain ⟨D, hD⟩ : ∃ D, D = Obj.cells #[.int .i64 c] 40 := ⟨_, rfl⟩
  have n8 := isNilP ⟨w.heap.size, 0, none⟩ ⟨tb, 0, none⟩ ((w.alloc A).alloc V) (by rw [World.cell?_alloc_lt _ _ ⟨w.heap.size, 0, none⟩ (by simp), hA]; simp)
  have hg2 : ((w.alloc A).alloc V).cell? ⟨0, 0, none⟩ = some (.iface 118 (.agg #[.pointer (some ⟨7, 26, none⟩)])) := by
    rw [World.cell?_alloc_lt _ _ ⟨0, 0, none⟩ (by simp), World.cell?_alloc_lt _ _ ⟨0, 0, none⟩ hlt]; exact hg0
  have hc3 : (((w.alloc A).alloc V).alloc V).cell? ⟨g, 2, none⟩ = some (.iface 40 (.int .i64 c)) := by
    rw [World.cell?_alloc_lt _ _ ⟨g, 2, none⟩ (by simp; omega), World.cell?_alloc_lt _ _ ⟨g, 2, none⟩ (by simp; omega), World.cell?_alloc_lt _ _ ⟨g, 2, none⟩ hgl]; exact hc
  have el := elemV ⟨w.heap.size, 0, none⟩ ⟨tb, 0, none⟩ (((w.alloc A).alloc V).alloc V) (by rw [World.cell?_alloc_lt _ _ ⟨w.heap.size, 0, none⟩ (by simp; omega), World.cell?_alloc_lt _ _ ⟨w.heap.size, 0, none⟩ (by simp), hA]; simp)
  have st := setC ⟨tb, 0, none⟩ ⟨w.heap.size + 1 + 1 + 1, 0, none⟩ c old ((((w.alloc A).alloc V).alloc V).alloc D)
    (by rw [hD, World.cell?_alloc_at _ _ _ _ (by simp)]; rfl)
    (by rw [World.cell?_alloc_lt _ _ ⟨tb, 0, none⟩ (by simp; omega), World.cell?_alloc_lt _ _ ⟨tb, 0, none⟩ (by simp; omega), World.cell?_alloc_lt _ _ ⟨tb, 0, none⟩ (by simp; omega), World.cell?_alloc_lt _ _ ⟨tb, 0, none⟩ htl]; exact ht0)
    (by rw [World.frozen?_alloc_old _ _ ⟨tb, 0, none⟩ (by simp; omega), World.frozen?_alloc_old _ _ ⟨tb, 0, none⟩ (by simp; omega), World.frozen?_alloc_old _ _ ⟨tb, 0, none⟩ (by simp; omega), World.frozen?_alloc_old _ _ ⟨tb, 0, none⟩ (Nat.ne_of_lt htl)]; exact hf0)
  subst hA hV hD
  clear hgl hg0 hc
  go_enter Tryz.func54, Tryz.ntmps54
  go_wp2
  refine wp_loop_rounds 2 ?_
  rw [rounds_succ]
  go_wp2
  rw [rounds_succ]
  go_wp2
  go_ret
  exact ⟨rfl, rfl⟩

theorem of_faultG (g' : Nat) (wh : ByteArray) (at7 c : Int) (w : World) (hg : ErrType w) (hF' : w.heap[g']? = some (.cells #[.string wh, .int .i64 at7, .iface 40 (.int .i64 c)] 166 (0, 0))) :
    Calls Tryz.prog 23 #[.iface 164 (.pointer (some ⟨g', 0, none⟩))] w fun e w' => e = .returned (.int .i64 c) ∧ Below w.heap.size w w' := by
  have hlt := hg.lt
  have hgl := lt_of_block hF'
  have hg1 : ErrType (w.alloc (.cells #[.int .i64 0] 40)) := hg.below hlt ((Below.refl _ _).alloc (Nat.le_of_lt (Nat.lt_of_lt_of_le Nat.zero_lt_one hlt)) _ |>.mono (Nat.le_refl _) |> fun h => ⟨h.os, h.tape, h.output, h.size, fun k hk => Below.heap_alloc w _ k hk⟩)
  have hc1 : (w.alloc (.cells #[.int .i64 0] 40)).cell? ⟨g', 2, none⟩ = some (.iface 40 (.int .i64 c)) := by
    rw [World.cell?_alloc_lt _ _ ⟨g', 2, none⟩ hgl]; simp [World.cell?, hF']
  clear hF'
  go_enter Tryz.func23, Tryz.ntmps23
  go_wp2_with fail
  refine (as_faultG g' w.heap.size c (.int .i64 0) _ hg1 (by simp) (by simp) hc1).mono ?_
  rintro e w' ⟨rfl, hw'⟩
  have hb : Below w.heap.size w w' := by
    rw [hw']
    refine Below.setCell (((((Below.refl _ _).alloc (Nat.le_refl _) _).alloc (by simp) _).alloc (by simp; omega) _).alloc (by simp; omega) _ |>.alloc (by simp; omega) _) (Nat.le_refl _) _
  have hcell : w'.cell? ⟨w.heap.size, 0, none⟩ = some (.int .i64 c) := by
    rw [hw']
    refine World.cell?_setCell_same' _ _ _ ?_
    rw [World.cell?_alloc_lt _ _ ⟨w.heap.size, 0, none⟩ (by simp; omega), World.cell?_alloc_lt _ _ ⟨w.heap.size, 0, none⟩ (by simp; omega), World.cell?_alloc_lt _ _ ⟨w.heap.size, 0, none⟩ (by simp; omega), World.cell?_alloc_lt _ _ ⟨w.heap.size, 0, none⟩ (by simp)]
    simp
  clear hw'
  go_wp2
  go_ret
  exact ⟨rfl, hb⟩

theorem of_is (er : Value) (c : Int) (w : World) (hg : ErrType w) (h : CodeIs w er c) :
    Calls Tryz.prog 23 #[er] w fun e w' => e = .returned (.int .i64 c) ∧ Below w.heap.size w w' := by
  rcases h with rfl | ⟨N, wh, at', rfl, hN⟩
  · exact of_code c w hg
  · exact of_faultG N wh at' c w hg hN
end Go.Proofs.YtkkbhkpeglcodaaGreatDoor

/- wigwaglaw08.GroupMeets, walked. -/
namespace Go.Proofs.YtkkbhkpeglcodaaGreatDoor
open Go.ChangeShapes Go.WideShapes Go.ChangeAt Go.RowKit
set_option linter.unusedVariables false

theorem of_er (er : Value) (c : Int) (w : World) (hg : ErrType w) (h : ErIs w er c) :
    Calls Tryz.prog 23 #[er] w fun e w' => e = .returned (.int .i64 c) ∧ Below w.heap.size w w' := by
  rcases h with ⟨rfl, rfl⟩ | ⟨_, h⟩
  · refine (of_nil w).mono ?_
    rintro e w' ⟨rfl, hw⟩
    subst w'
    exact ⟨rfl, Below.refl _ _⟩
  · exact of_is er c w hg h
/-- All that came in lies where it lay. -/
structure Gm (w W : World) (p q g h x y : Value) (L : List At) (G : List Pd) (V : List Vl) : Prop where
  a1 : AtIn W p L
  a2 : AtIn W q L
  p1 : PdIn W g G
  p2 : PdIn W h G
  v1 : VlIn W x V
  v2 : VlIn W y V
  env : GEnv W ∧ ErrType W
  bel : Below w.heap.size w W
theorem Gm.below {w W W' : World} {p q g h x y : Value} {L : List At} {G : List Pd} {V : List Vl} (m : Gm w W p q g h x y L G V) (hb : Below W.heap.size W W') : Gm w W' p q g h x y L G V :=
  ⟨m.a1.below hb, m.a2.below hb, m.p1.below hb, m.p2.below hb, m.v1.below hb, m.v2.below hb, ⟨m.env.1.below hb, m.env.2.below m.env.2.lt hb⟩, m.bel.trans (hb.mono m.bel.size)⟩


set_option maxRecDepth 100000 in
set_option maxHeartbeats 8000000 in
theorem meets_walk (a0 : Option Addr) (len0 cap0 : Nat) (t0 : List At) (a1 : Option Addr) (len1 cap1 : Nat) (t1 : List Pd) (a2 : Option Addr) (len2 cap2 : Nat) (s2 : ByteArray) (t2 : List Vl) (L : Int) (w : World) (hE : GEnv w) (hT : ErrType w) (w0 : InRow 4 At.cells At.ok at0 w a0 len0 t0) (w1 : InRow 5 Pd.cells Pd.ok pd0 w a1 len1 t1) (w2 : InRow 2 Vl.cells Vl.ok vl0 w a2 len2 t2) (hs : s2.size ≤ maxLen) :
    Calls Tryz.prog 4 #[.slice a0 len0 cap0, .slice a1 len1 cap1, .agg #[.slice a2 len2 cap2, .string s2], .int .i64 L] w fun e w' => e = .returned (.bool true) ∧ Below w.heap.size w w' := by
  obtain ⟨az, hL⟩ : ∃ az, az = (t0.take 6).map cutA := ⟨_, rfl⟩
  obtain ⟨G, hG⟩ : ∃ G, G = (t1.take 6).map cutP := ⟨_, rfl⟩
  obtain ⟨V, hV⟩ : ∃ V, V = (t2.take 6).map cutV := ⟨_, rfl⟩
  have lL : az.length ≤ 6 := by rw [hL]; simp; omega
  have lG : G.length ≤ 6 := by rw [hG]; simp; omega
  have lV : V.length ≤ 6 := by rw [hV]; simp; omega
  have zL : ∀ i, i < az.length → (az.getD i at0).name.size ≤ 20 := by rw [hL]; exact gz_cutA t0
  have zG : ∀ i, i < G.length → (G.getD i pd0).str.size ≤ 50 ∧ (G.getD i pd0).name.size ≤ 20 := by rw [hG]; exact gz_cutP t1
  have zV : ∀ i, i < V.length → (V.getD i vl0).str.size ≤ 1000 := by rw [hV]; exact fun i hi => Nat.le_trans (gz_cutV t2 i hi) (by omega)
  obtain ⟨b, c, ss, hss, C1, C2, C3, C4⟩ := choose_two az G L (by omega) (by omega) (fun i hi => Nat.le_trans (zL i hi) (by unfold maxLen; omega)) (fun i hi => ⟨Nat.le_trans (zG i hi).1 (by omega), Nat.le_trans (zG i hi).2 (by omega)⟩)
  have hps := cut_size s2 210
  obtain ⟨d, ts, hts, D1, D2⟩ := reach_two az V (cut s2 210) L (by omega) (by omega) (by omega) (fun i hi => Nat.le_trans (zL i hi) (by omega)) zV
  have HC1 : Hid _ := C1
  have HC2 : Hid _ := C2
  have HC3 : Hid _ := C3
  have HC4 : Hid _ := C4
  have HD1 : Hid _ := D1
  have HD2 : Hid _ := D2
  clear C1 C2 C3 C4 D1 D2 zL zG zV
  obtain ⟨W0, hW0⟩ : ∃ W0, W0 = w.alloc (.cells #[.slice a2 len2 cap2, .string s2] 48) := ⟨_, rfl⟩
  have b0 : Below w.heap.size w W0 := by rw [hW0]; exact dbel1 _ _
  have e0 : W0.cell? ⟨w.heap.size, 0, none⟩ = some (.slice a2 len2 cap2) := by rw [hW0]; simp
  have e1 : W0.cell? ⟨w.heap.size, 1, none⟩ = some (.string s2) := by rw [hW0]; simp
  have HA1 : Hid _ := attrs_any a0 len0 cap0 t0 W0 (InRow.below w0 (Nat.le_refl _) b0)
  rw [← hL] at HA1
  have HP1 : Hid (∀ W, Below w.heap.size w W → _) := fun W hb => preds_any a1 len1 cap1 t1 W (InRow.below w1 (Nat.le_refl _) hb)
  rw [← hG] at HP1
  have HV1 : Hid (∀ W, Below w.heap.size w W → _) := fun W hb => ev_any a2 len2 cap2 s2 t2 W (InRow.below w2 (Nat.le_refl _) hb) hs
  rw [← hV] at HV1
  have HE : Hid (GEnv w ∧ ErrType w) := ⟨hE, hT⟩
  have HB0 : Hid (Below w.heap.size w W0) := b0
  have HQ : Hid (W0.cell? ⟨w.heap.size, 0, none⟩ = some (.slice a2 len2 cap2) ∧ W0.cell? ⟨w.heap.size, 1, none⟩ = some (.string s2)) := ⟨e0, e1⟩
  generalize cut s2 210 = pay at *
  clear w0 w1 w2 hE hT hL hG hV b0 e0 e1
  go_enter Tryz.func4, Tryz.ntmps4
  go_wp2_with fail
  rw [← hW0]
  clear hW0
  refine Calls.mono HA1.out ?_
  rintro e W1 ⟨p, q, rfl, R1⟩
  have B1 : Hid (Below W0.heap.size W0 W1 ∧ Below w.heap.size w W1) := ⟨R1.bel, HB0.out.trans (R1.bel.mono HB0.out.size)⟩
  have A1 : Hid (AtIn W1 p az ∧ AtIn W1 q az) := ⟨AtIn.ofOwn R1.r1, AtIn.ofOwn R1.r2⟩
  clear R1 HA1
  go_wp2_with fail
  refine Calls.mono (HP1.out _ B1.out.2) ?_
  rintro e W2 ⟨g, h, rfl, R2⟩
  have B2 : Hid (Below W0.heap.size W0 W2 ∧ Below w.heap.size w W2) := ⟨B1.out.1.trans (R2.bel.mono B1.out.1.size), B1.out.2.trans (R2.bel.mono B1.out.2.size)⟩
  have A2 : Hid (AtIn W2 p az ∧ AtIn W2 q az ∧ PdIn W2 g G ∧ PdIn W2 h G) := ⟨A1.out.1.below R2.bel, A1.out.2.below R2.bel, PdIn.ofOwn R2.r1, PdIn.ofOwn R2.r2⟩
  clear R2 HP1 B1 A1
  have k0 := cell_grown HQ.out.1 B2.out.1
  have k1 := cell_grown HQ.out.2 B2.out.1
  have kl : w.heap.size < W2.heap.size := cell_block k0
  go_wp2_with fail
  refine Calls.mono (HV1.out _ B2.out.2) ?_
  rintro e W3 ⟨x, y, rfl, r1, r2, _, b3⟩
  have M3 : Hid (Gm w W3 p q g h x y az G V) := ⟨A2.out.1.below b3, A2.out.2.1.below b3, A2.out.2.2.1.below b3, A2.out.2.2.2.below b3, VlIn.ofOwn r1, VlIn.ofOwn r2, ⟨(HE.out.1.below (B2.out.2.trans (b3.mono B2.out.2.size))), HE.out.2.below HE.out.2.lt (B2.out.2.trans (b3.mono B2.out.2.size))⟩, B2.out.2.trans (b3.mono B2.out.2.size)⟩
  clear r1 r2 b3 HV1 B2 A2 k0 k1 kl HQ HB0
  obtain ⟨ax, cx, hxv, _⟩ := M3.out.v1.shape
  subst hxv
  obtain ⟨W4, hW4⟩ : ∃ W4, W4 = W3.alloc (.cells #[.slice ax V.length cx, .string pay] 48) := ⟨_, rfl⟩
  have b4 : Below W3.heap.size W3 W4 := by rw [hW4]; exact dbel1 _ _
  have f0 : W4.cell? ⟨W3.heap.size, 0, none⟩ = some (.slice ax V.length cx) := by rw [hW4]; simp
  have f1 : W4.cell? ⟨W3.heap.size, 1, none⟩ = some (.string pay) := by rw [hW4]; simp
  have M4 : Hid (Gm w W4 p q g h (.slice ax V.length cx) y az G V ∧ W4.cell? ⟨W3.heap.size, 0, none⟩ = some (.slice ax V.length cx) ∧ W4.cell? ⟨W3.heap.size, 1, none⟩ = some (.string pay)) := ⟨M3.out.below b4, f0, f1⟩
  clear b4 f0 f1 M3
  go_wp2_with fail
  rw [← hW4]
  clear hW4
  generalize W3.heap.size = X at *
  refine Calls.mono (HC1.out _ _ _ M4.out.1.a1 M4.out.1.p1) ?_
  rintro e W5 ⟨er1, rfl, hr1, b5⟩
  have M5 : Hid (Gm w W5 p q g h (.slice ax V.length cx) y az G V ∧ W5.cell? ⟨X, 0, none⟩ = some (.slice ax V.length cx) ∧ W5.cell? ⟨X, 1, none⟩ = some (.string pay) ∧ ErIs W5 er1 c) := ⟨M4.out.1.below b5, cell_grown M4.out.2.1 b5, cell_grown M4.out.2.2 b5, hr1⟩
  clear b5 M4 hr1
  go_wp2_with fail
  refine Calls.mono (HC2.out _ _ _ M5.out.1.a2 M5.out.1.p2) ?_
  rintro e W6 ⟨rfl, b6⟩
  have M6 : Hid (Gm w W6 p q g h (.slice ax V.length cx) y az G V ∧ W6.cell? ⟨X, 0, none⟩ = some (.slice ax V.length cx) ∧ W6.cell? ⟨X, 1, none⟩ = some (.string pay) ∧ ErIs W6 er1 c) := ⟨M5.out.1.below b6, cell_grown M5.out.2.1 b6, cell_grown M5.out.2.2.1 b6, M5.out.2.2.2.below b6⟩
  clear b6 M5
  go_wp2_with fail
  refine Calls.mono (HC3.out _ _ _ M6.out.1.env.1 M6.out.1.a1 M6.out.1.p1) ?_
  rintro e W7 ⟨l1, er2, rfl, hS1, hr2, b7⟩
  have M7 : Hid (Gm w W7 p q g h (.slice ax V.length cx) y az G V ∧ W7.cell? ⟨X, 0, none⟩ = some (.slice ax V.length cx) ∧ W7.cell? ⟨X, 1, none⟩ = some (.string pay) ∧ ErIs W7 er1 c ∧ ErIs W7 er2 c ∧ StIn W7 l1 ss) := ⟨M6.out.1.below b7, cell_grown M6.out.2.1 b7, cell_grown M6.out.2.2.1 b7, M6.out.2.2.2.below b7, hr2, hS1⟩
  clear b7 M6 hS1 hr2
  go_wp2_with fail
  refine Calls.mono (HC4.out _ _ _ M7.out.1.a2 M7.out.1.p2) ?_
  rintro e W8 ⟨l2, rfl, hS2, b8⟩
  have M8 : Hid (Gm w W8 p q g h (.slice ax V.length cx) y az G V ∧ W8.cell? ⟨X, 0, none⟩ = some (.slice ax V.length cx) ∧ W8.cell? ⟨X, 1, none⟩ = some (.string pay) ∧ ErIs W8 er1 c ∧ ErIs W8 er2 c ∧ StIn W8 l1 ss ∧ StIn W8 l2 ss) := ⟨M7.out.1.below b8, cell_grown M7.out.2.1 b8, cell_grown M7.out.2.2.1 b8, M7.out.2.2.2.1.below b8, M7.out.2.2.2.2.1.below b8, M7.out.2.2.2.2.2.below b8, hS2⟩
  clear b8 M7 hS2
  have q0 := M8.out.2.1
  have q1 := M8.out.2.2.1
  have ql : X < W8.heap.size := cell_block q0
  go_wp2_with fail
  refine Calls.mono (HD1.out _ _ _ M8.out.1.env.1 M8.out.1.a1 M8.out.1.v1) ?_
  rintro e W9 ⟨l3, er3, rfl, hS3, hr3, b9⟩
  have M9 : Hid (Gm w W9 p q g h (.slice ax V.length cx) y az G V ∧ ErIs W9 er1 c ∧ ErIs W9 er2 c ∧ StIn W9 l1 ss ∧ StIn W9 l2 ss ∧ StIn W9 l3 ts ∧ ErIs W9 er3 d) := ⟨M8.out.1.below b9, M8.out.2.2.2.1.below b9, M8.out.2.2.2.2.1.below b9, M8.out.2.2.2.2.2.1.below b9, M8.out.2.2.2.2.2.2.below b9, hS3, hr3⟩
  replace q1 := cell_grown q1 b9
  replace ql : X < W9.heap.size := cell_block q1
  clear b9 M8 hS3 hr3 q0
  go_wp2_with fail
  refine Calls.mono (HD2.out _ _ _ M9.out.1.a2 M9.out.1.v2) ?_
  rintro e W10 ⟨l4, rfl, hS4, b10⟩
  have M10 : Hid (Gm w W10 p q g h (.slice ax V.length cx) y az G V ∧ ErIs W10 er1 c ∧ ErIs W10 er2 c ∧ StIn W10 l1 ss ∧ StIn W10 l2 ss ∧ StIn W10 l3 ts ∧ StIn W10 l4 ts ∧ ErIs W10 er3 d) := ⟨M9.out.1.below b10, M9.out.2.1.below b10, M9.out.2.2.1.below b10, M9.out.2.2.2.1.below b10, M9.out.2.2.2.2.1.below b10, M9.out.2.2.2.2.2.1.below b10, hS4, M9.out.2.2.2.2.2.2.below b10⟩
  clear b10 M9 hS4 q1 ql
  have hbb : (b == b) = true := by simp
  have hcc : (c == c) = true := by simp
  have hdd : (d == d) = true := by simp
  go_wp2_with fail
  refine Calls.mono (awake8_any _ M10.out.1.env.1) ?_
  rintro e W11 ⟨rfl, b11⟩
  have M11 : Hid (Gm w W11 p q g h (.slice ax V.length cx) y az G V ∧ ErIs W11 er1 c ∧ ErIs W11 er2 c ∧ StIn W11 l1 ss ∧ StIn W11 l2 ss ∧ StIn W11 l3 ts ∧ StIn W11 l4 ts ∧ ErIs W11 er3 d) := ⟨M10.out.1.below b11, M10.out.2.1.below b11, M10.out.2.2.1.below b11, M10.out.2.2.2.1.below b11, M10.out.2.2.2.2.1.below b11, M10.out.2.2.2.2.2.1.below b11, M10.out.2.2.2.2.2.2.1.below b11, M10.out.2.2.2.2.2.2.2.below b11⟩
  clear b11 M10
  go_wp2_with fail
  refine Calls.mono (of_er _ _ _ M11.out.1.env.2 M11.out.2.1) ?_
  rintro e W12 ⟨rfl, b12⟩
  have M12 : Hid (Gm w W12 p q g h (.slice ax V.length cx) y az G V ∧ ErIs W12 er2 c ∧ StIn W12 l1 ss ∧ StIn W12 l2 ss ∧ StIn W12 l3 ts ∧ StIn W12 l4 ts ∧ ErIs W12 er3 d) := ⟨M11.out.1.below b12, M11.out.2.2.1.below b12, M11.out.2.2.2.1.below b12, M11.out.2.2.2.2.1.below b12, M11.out.2.2.2.2.2.1.below b12, M11.out.2.2.2.2.2.2.1.below b12, M11.out.2.2.2.2.2.2.2.below b12⟩
  clear b12 M11
  go_wp2_with fail
  refine Calls.mono (texts_any _ _ ss _ M12.out.2.2.1 M12.out.2.2.2.1 hss) ?_
  rintro e W13 ⟨rfl, b13⟩
  have M13 : Hid (Gm w W13 p q g h (.slice ax V.length cx) y az G V ∧ ErIs W13 er2 c ∧ StIn W13 l3 ts ∧ StIn W13 l4 ts ∧ ErIs W13 er3 d) := ⟨M12.out.1.below b13, M12.out.2.1.below b13, M12.out.2.2.2.2.1.below b13, M12.out.2.2.2.2.2.1.below b13, M12.out.2.2.2.2.2.2.below b13⟩
  clear b13 M12
  go_wp2_with fail
  refine Calls.mono (of_er _ _ _ M13.out.1.env.2 M13.out.2.1) ?_
  rintro e W14 ⟨rfl, b14⟩
  have M14 : Hid (Gm w W14 p q g h (.slice ax V.length cx) y az G V ∧ StIn W14 l3 ts ∧ StIn W14 l4 ts ∧ ErIs W14 er3 d) := ⟨M13.out.1.below b14, M13.out.2.2.1.below b14, M13.out.2.2.2.1.below b14, M13.out.2.2.2.2.below b14⟩
  clear b14 M13
  go_wp2_with fail
  refine Calls.mono (texts_any _ _ ts _ M14.out.2.1 M14.out.2.2.1 hts) ?_
  rintro e W15 ⟨rfl, b15⟩
  have M15 : Hid (Gm w W15 p q g h (.slice ax V.length cx) y az G V ∧ ErIs W15 er3 d) := ⟨M14.out.1.below b15, M14.out.2.2.2.below b15⟩
  clear b15 M14
  go_wp2_with fail
  refine Calls.mono (of_er _ _ _ M15.out.1.env.2 M15.out.2) ?_
  rintro e W16 ⟨rfl, b16⟩
  have M16 : Hid (Gm w W16 p q g h (.slice ax V.length cx) y az G V) := M15.out.1.below b16
  clear b16 M15
  go_wp2
  go_ret
  exact ⟨rfl, M16.out.bel⟩
end Go.Proofs.YtkkbhkpeglcodaaGreatDoor

/- What four tied variables give a walk: strconv's table, and the type of errors. -/
namespace Go.Proofs.YtkkbhkpeglcodaaGreatDoor
open Go.ChangeShapes Go.WideShapes Go.ChangeAt Go.RowKit Go.Extern.Stop Go.Stop Go.Extern
set_option linter.unusedVariables false

abbrev seatLaid4 : List (String × DataW Unit) := [("math/bits.deBruijn32tab", Rows.laid_math_bits_deBruijn32tab), ("math/bits.deBruijn64tab", Rows.laid_math_bits_deBruijn64tab), ("internal/strconv.uint64pow10", Rows.laid_internal_strconv_uint64pow10), ("errors.errorType", Rows.laid_errors_errorType)]
theorem et4 : Tryz.prog.globalNamed "errors.errorType" = some 0 := by kernel_rfl
theorem rt4 : (Tryz.prog.cutTypes.find? (·.1 == "internal/reflectlite.rtype")).map (·.2) = some 118 := by kernel_rfl
theorem oneRow4 : ((List.range Tryz.prog.types.size).filter fun t => Tryz.prog.rowNamed t [101, 114, 114, 111, 114]) = [26] := by kernel_rfl
set_option maxRecDepth 100000 in
theorem genv_of_laid4 {W : World} (h : laidMetH Tryz.prog seatLaid4 W) : GEnv W ∧ ErrType W := by
  obtain ⟨h1, h2⟩ := laidMetH_iff.1 h
  refine ⟨?_, ?_⟩
  · have f1 := h1.filter (fun x => x.1 == "internal/strconv.uint64pow10")
    have g1 : laidMet Tryz.prog [("internal/strconv.uint64pow10", Lib.tabData .u64 Lib.pow10Tab)] W := f1
    refine ⟨Lib.tabIs_of_head (P := Tryz.prog) (g := 4) (by kernel_rfl) (t := 197) (by kernel_rfl) Tryz.underlying197 Tryz.underlying35 (by kernel_rfl) (by kernel_rfl) g1, ?_⟩
    obtain ⟨ps, ⟨g', t', cs, fuel, p, q, hg', ht', hvar, hd, _, _⟩, _⟩ := g1
    have hgg : Tryz.prog.globalNamed "internal/strconv.uint64pow10" = some 4 := by kernel_rfl
    unfold World.var? at hvar
    rw [hgg] at hvar
    simp only [Option.bind_some] at hvar
    rcases Nat.lt_or_ge 4 W.heap.size with q | q
    · exact q
    · rw [Array.getElem?_eq_none q] at hvar; simp at hvar
  · obtain ⟨name, u, ty, e1, e2, e3, e4, e5⟩ := h2 ("errors.errorType", Rows.laid_errors_errorType) (List.mem_filter.2 ⟨List.Mem.tail _ (List.Mem.tail _ (List.Mem.tail _ (List.Mem.head _))), rfl⟩)
    have en : name = [101, 114, 114, 111, 114] := (Option.some.inj e1).symm
    subst en
    obtain rfl := Option.some.inj (rt4.symm.trans e2)
    have hm : ty ∈ (List.range Tryz.prog.types.size).filter fun t => Tryz.prog.rowNamed t [101, 114, 114, 111, 114] := List.mem_filter.2 ⟨List.mem_range.2 e3, e4⟩
    rw [oneRow4] at hm
    obtain rfl := List.mem_singleton.1 hm
    have hh : typeHandle Tryz.prog 26 = .pointer (some ⟨7, 26, none⟩) := by kernel_rfl
    rw [hh] at e5
    unfold ErrType
    simpa using World.var?_cell et4 e5 0
/-- A world in which the variables hold what they should: that there is one. -/
def witHeap4 (h : Array Obj) : Array Obj :=
  setB (setB (setB (setB h 0 #[.iface 118 (.agg #[.pointer (some ⟨7, 26, none⟩)])])
    4 (litCells Rows.laid_internal_strconv_uint64pow10)) 5 (litCells Rows.laid_math_bits_deBruijn32tab)) 6 (litCells Rows.laid_math_bits_deBruijn64tab)
theorem wit_laid4 (os : Os) : laidMetH Tryz.prog seatLaid4 { World.holding Tryz.prog os ⟨#[], #[], []⟩ with heap := witHeap4 (World.holding Tryz.prog os ⟨#[], #[], []⟩).heap } :=
  laidMetH_of_parts (laidMet_of_run' 8 (by kernel_rfl) (by kernel_rfl)) (by kernel_rfl)
end Go.Proofs.YtkkbhkpeglcodaaGreatDoor
