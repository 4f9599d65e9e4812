/- Things (wigwaglaw02.Thing): a slice of them that came in; 'few' copies at most so many, their texts cut. -/
import Derived.Test.YticdikllfkfkfaaDoorRows
import Derived.Test.YticdikllfkfkfaaDoorAid
import Derived.Test.YticdikllfkfkfaaDoorCut
import Derived.Deep.Slices
import Derived.WalkKit
import Derived.ProofKit
import Derived.OpenShut
import Derived.WalkLawsBesides
import Derived.Outline
namespace Go.Proofs.YticdikllfkfkfaaDoor
open Go.ChangeShapes Go.WideShapes Go.ChangeAt Go.RowKit Go.Deep
set_option linter.unusedVariables false

structure Th where
  kind : Int
  n : Int
  u : Nat
  s : ByteArray

def th0 : Th := ⟨0, 0, 0, ByteArray.empty⟩

/-- A thing as cells. -/
def Th.cells (t : Th) : List Value := [.int .i64 t.kind, .int .i64 t.n, .int .u64 t.u, .string t.s]
/-- What may stand in a thing. -/
def Th.ok (t : Th) : Prop := (-9223372036854775808 ≤ t.kind ∧ t.kind ≤ 9223372036854775807) ∧ (-9223372036854775808 ≤ t.n ∧ t.n ≤ 9223372036854775807) ∧ t.u < 18446744073709551616 ∧ t.s.size ≤ maxLen
/-- The thing with its text cut. -/
def Th.cut (t : Th) (n : Nat) : Th := { t with s := Go.Proofs.YticdikllfkfkfaaDoor.cut t.s n }

/-- The things ts lie at the address, one behind the other. -/
structure ThAt (w : World) (b off len : Nat) (ts : List Th) : Prop where
  lenEq : ts.length = len
  c0 : ∀ j, j < len → w.cell? ⟨b, off + j * 4, none⟩ = some (.int .i64 (ts.getD j th0).kind)
  c1 : ∀ j, j < len → w.cell? ⟨b, off + j * 4 + 1, none⟩ = some (.int .i64 (ts.getD j th0).n)
  c2 : ∀ j, j < len → w.cell? ⟨b, off + j * 4 + 2, none⟩ = some (.int .u64 (ts.getD j th0).u)
  c3 : ∀ j, j < len → w.cell? ⟨b, off + j * 4 + 3, none⟩ = some (.string (ts.getD j th0).s)
  ok : ∀ t ∈ ts, t.ok

theorem Tryd.infoTh : (Tryd.prog.info? 33).map (fun i => (i.zero, i.size, i.bytes)) = some (some (.agg #[.int .i64 0, .int .i64 0, .int .u64 0, .string ByteArray.empty]), 4, 40) := by kernel_rfl

theorem news_four (W : World) (t : Th) (x : Nat) (hx : x = W.heap.size) (j : Nat) (u : Value) (h : t.cells[j]? = some u) :
    (W.alloc (.cells #[.int .i64 t.kind, .int .i64 t.n, .int .u64 t.u, .string t.s] 33)).cell? ((⟨x, 0, none⟩ : Addr).add j) = some u := by
  subst hx
  have e : (⟨W.heap.size, 0, none⟩ : Addr).add j = ⟨W.heap.size, j, none⟩ := by unfold Addr.add; split <;> simp_all
  rw [e, World.cell?_alloc_new, ← h]
  simp [Th.cells]

theorem take_snocT (ts : List Th) (k : Nat) (h : k < ts.length) : ts.take (k + 1) = ts.take k ++ [ts.getD k th0] := by
  rw [List.take_succ_eq_append_getElem h]; simp [List.getD, h]

def fewCells (ts : List Th) (k : Nat) : List Value := (ts.take k).flatMap fun t => (t.cut 200).cells

set_option maxHeartbeats 1000000 in
set_option maxRecDepth 100000 in
theorem few_some (b off len cap m : Nat) (ts : List Th) (w : World) (hT : ThAt w b off len ts) (hm : len ≤ 9223372036854775807) (hm40 : m ≤ 40) (hbl : b < w.heap.size) :
    Calls Tryd.prog 11 #[.slice (some ⟨b, off, none⟩) len cap, .int .i64 m] w fun e w' => ∃ v, e = .returned v ∧ w'.ownsRow w.heap.size 33 4 v (min len m) (fewCells ts (min len m)) ∧ Below w.heap.size w w' := by
  obtain ⟨i0, hi, hz0, hz1, hz2⟩ := info_parts Tryd.infoTh
  go_enter Tryd.func11, Tryd.ntmps11
  go_wp2
  go_loopw [5, 6] (fun v i wr => ∃ k : Nat, k ≤ len ∧ k ≤ m ∧ i = .int .i64 k ∧ wr.ownsRow w.heap.size 33 4 v k (fewCells ts k) ∧ Below w.heap.size w wr) (fun _ i _ => m - (intOf i).toNat)
  case atStart => exact ⟨0, by omega, by omega, rfl, ⟨rfl, .inr ⟨w.heap.size, 0, #[], rfl, Nat.le_refl _, heap_alloc_new w _, Nat.le_refl _, Nat.zero_le _, rfl, rfl⟩⟩, (Below.refl _ _).alloc (Nat.le_refl _) _⟩
  case round =>
    obtain ⟨k, hk, hkm, rfl, hown, hbel⟩ := hrel
    by_cases hlt : k < len
    · by_cases hlm : k < m
      · have g0 : wr.cell? ⟨b, off + k * 4, none⟩ = some (.int .i64 (ts.getD k th0).kind) := (hbel.cell (by exact hbl)).trans (hT.c0 k hlt)
        have g1 : wr.cell? ⟨b, off + k * 4 + 1, none⟩ = some (.int .i64 (ts.getD k th0).n) := (hbel.cell (by exact hbl)).trans (hT.c1 k hlt)
        have g2 : wr.cell? ⟨b, off + k * 4 + 2, none⟩ = some (.int .u64 (ts.getD k th0).u) := (hbel.cell (by exact hbl)).trans (hT.c2 k hlt)
        have g3 : wr.cell? ⟨b, off + k * 4 + 3, none⟩ = some (.string (ts.getD k th0).s) := (hbel.cell (by exact hbl)).trans (hT.c3 k hlt)
        obtain ⟨t, ht⟩ : ∃ t, t = ts.getD k th0 := ⟨_, rfl⟩
        rw [← ht] at g0 g1 g2 g3
        have HT : Hid (t = ts.getD k th0) := ht
        have hok : t.ok := by
          rw [ht]; exact hT.ok _ (by rw [List.getD_eq_getElem?_getD, List.getElem?_eq_getElem (by rw [hT.lenEq]; exact hlt)]; simp)
        clear ht
        go_wp2_with fail
        refine (cut_any t.s 200 _ hok.2.2.2).mono ?_
        rintro e w' ⟨rfl, hw'⟩
        rw [hw']
        clear hw' w'
        go_wp2_with (at_builtin; refine wpList_append_own _ rfl _ _ 22 rfl w.heap.size 33 i0 (.agg #[.int .i64 0, .int .i64 0, .int .u64 0, .string ByteArray.empty]) 4 40 Tryd.underlying22 hi hz0 hz1 hz2 rfl (by decide) _ _ _ rfl ((hown.alloc _).alloc _) ⟨wr.heap.size + 1, 0, none⟩ 1 1 (t.cut 200).cells rfl rfl ?c1 ?c2 ?c3 ?c4 ?c5 ?_)
        case c1 => exact fun j u hu => news_four _ (t.cut 200) _ (by simp) j u hu
        case c2 => intro u hu; simp [Th.cells] at hu; rcases hu with rfl | rfl | rfl | rfl <;> rfl
        case c3 => unfold maxLen; omega
        case c4 => omega
        case c5 => have := hbel.size; simp; omega
        intro v' w1 hown' hgrow _
        have hb1 : Below w.heap.size w w1 := ((hbel.alloc hbel.size _).alloc (by have := hbel.size; simp; omega) _).grown hgrow (by have := hbel.size; simp; omega) (fun k hk => (hown.lt k hk).1)
        have e1 : fewCells ts k ++ (t.cut 200).cells = fewCells ts (k + 1) := by
          unfold fewCells
          rw [take_snocT ts k (by rw [hT.lenEq]; exact hlt), List.flatMap_append, HT.out]; simp
        rw [e1] at hown'
        clear e1 hgrow hown hbel g0 g1 g2 g3
        go_wp2
        go_roundw
        case rel => exact ⟨k + 1, by omega, by omega, by go_num, hown', hb1⟩
        case measure => simp [intOf]; omega
      · have E : Hid (min len m = k) := (by omega : min len m = k)
        go_wp2
        go_ret
        exact ⟨_, rfl, by rw [E.out]; exact hown, hbel⟩
    · have E : Hid (min len m = k) := (by omega : min len m = k)
      go_wp2
      go_ret
      exact ⟨_, rfl, by rw [E.out]; exact hown, hbel⟩

theorem few_none (a : Option Addr) (cap m : Nat) (w : World) :
    Calls Tryd.prog 11 #[.slice a 0 cap, .int .i64 m] w fun e w' => ∃ v, e = .returned v ∧ w'.ownsRow w.heap.size 33 4 v 0 [] ∧ Below w.heap.size w w' := by
  go_enter Tryd.func11, Tryd.ntmps11
  go_wp2
  refine wp_loop_rounds 1 ?_
  rw [rounds_succ]
  go_wp2
  go_ret
  exact ⟨_, rfl, ⟨rfl, .inr ⟨w.heap.size, 0, #[], rfl, Nat.le_refl _, heap_alloc_new w _, Nat.le_refl _, Nat.zero_le _, rfl, rfl⟩⟩, (Below.refl _ _).alloc (Nat.le_refl _) _⟩

/-- A slice of things that came in. -/
def IsThings (w : World) (a : Option Addr) (len cap : Nat) (ts : List Th) : Prop :=
  (len = 0 ∧ ts = []) ∨ ∃ b off, a = some ⟨b, off, none⟩ ∧ 0 < len ∧ len ≤ maxLen ∧ b < w.heap.size ∧ ThAt w b off len ts

theorem few_any (a : Option Addr) (len cap m : Nat) (ts : List Th) (w : World) (h : IsThings w a len cap ts) (hm40 : m ≤ 40) :
    Calls Tryd.prog 11 #[.slice a len cap, .int .i64 m] w fun e w' => ∃ v, e = .returned v ∧ w'.ownsRow w.heap.size 33 4 v (ts.take m).length (((ts.take m).map fun t => t.cut 200).flatMap Th.cells) ∧ Below w.heap.size w w' := by
  rcases h with ⟨rfl, rfl⟩ | ⟨b, off, rfl, hp, hl, hb, hT⟩
  · refine (few_none a cap m w).mono ?_
    rintro e w' ⟨v, rfl, h1, h2⟩
    exact ⟨v, rfl, by simpa using h1, h2⟩
  · refine (few_some b off len cap m ts w hT (by unfold maxLen at hl; omega) hm40 hb).mono ?_
    rintro e w' ⟨v, rfl, h1, h2⟩
    refine ⟨v, rfl, ?_, h2⟩
    have e1 : (ts.take m).length = min len m := by rw [List.length_take, hT.lenEq, Nat.min_comm]
    have e2 : ((ts.take m).map fun t => t.cut 200).flatMap Th.cells = fewCells ts (min len m) := by
      unfold fewCells
      rw [List.flatMap_map]
      congr 1
      rw [← hT.lenEq, Nat.min_comm, ← List.take_eq_take_min]
    rw [e1, e2]; exact h1
end Go.Proofs.YticdikllfkfkfaaDoor
