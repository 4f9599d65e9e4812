/- Layer 9's world of addresses, as it comes in and as it is asked: Lives, Id. -/
import Derived.Test.YtmajlldfiiokoaaGreatDoorInRow
import Derived.Test.YtmajlldfiiokoaaGreatDoorPrMath
import Derived.Test.YtmajlldfiiokoaaGreatDoorFam
import Derived.Test.YtmajlldfiiokoaaGreatDoorAid
import Derived.WalkLawsBesides
import Derived.Outline
import Derived.Below
namespace Go.Proofs.YtmajlldfiiokoaaGreatDoor
open Go.ChangeShapes Go.WideShapes Go.ChangeAt Go.RowKit Go.Deep
set_option linter.unusedVariables false

/-- A bool. -/
def encB (s : Bool) : List Value := [.bool s]
def okB (_ : Bool) : Prop := True
/-- A place. -/
def encU (n : Int) : List Value := [.int .u64 n]
def u64 (n : Int) : Prop := 0 ≤ n ∧ n ≤ 18446744073709551615
theorem lenB (s : Bool) : (encB s).length = 1 := rfl
theorem lenU (s : Int) : (encU s).length = 1 := rfl
theorem cellsB1 : Tryz.prog.cellsOf 4 = 1 := by kernel_rfl
theorem cellsU1 : Tryz.prog.cellsOf 59 = 1 := by kernel_rfl
theorem cellsLb : Tryz.prog.cellsOf 26 = 1 := by kernel_rfl
theorem cellsLu : Tryz.prog.cellsOf 22 = 1 := by kernel_rfl
theorem cellsLi : Tryz.prog.cellsOf 24 = 1 := by kernel_rfl
theorem cellsPe : Tryz.prog.cellsOf 80 = 3 := by kernel_rfl

abbrev LvIn (w : World) (a : Option Addr) (len : Nat) (lv : List Bool) : Prop := InRow 1 encB okB false w a len lv
abbrev IdIn (w : World) (a : Option Addr) (len : Nat) (ids : List Int) : Prop := InRow 1 encU u64 0 w a len ids
abbrev InIn (w : World) (a : Option Addr) (len : Nat) (l : List Int) : Prop := InRow 1 encI i64 0 w a len l

/-- A member's knowledge, as it came in. -/
structure PeIn (w : World) (id pred : Int) (a : Option Addr) (len cap : Nat) (l : List Int) : Prop where
  hid : u64 id
  hpred : i64 pred
  row : InIn w a len l
  hcap : len ≤ cap
  hmost : cap ≤ 9223372036854775807
  hnil : a = none → len = 0
theorem PeIn.below {w w' : World} {id pred : Int} {a : Option Addr} {len cap : Nat} {l : List Int} (h : PeIn w id pred a len cap l) {B : Nat} (hB : w.heap.size ≤ B) (hb : Below B w w') : PeIn w' id pred a len cap l :=
  ⟨h.hid, h.hpred, h.row.below hB hb, h.hcap, h.hmost, h.hnil⟩

section
variable {H : Type} {enc' : TypeId × Value → H} {W : World}
theorem slice_caps {T E : TypeId} (hT : Tryz.prog.underlying T = some (.slice E)) {n : Nat} {a : Option Addr} {len cap : Nat} {x : DataW H × List MemPlace} (h : DataW.trod enc' Tryz.prog W 0 (fun _ => true) true n T [.slice a len cap] = some x) : len ≤ cap ∧ cap ≤ 9223372036854775807 ∧ (a = none → len = 0) := by
  rcases open_slice hT h with ⟨hcs, _⟩ | ⟨ad, l, c, m, n, D, Pl, hcs, _, h1, h2, _⟩
  · simp at hcs; omega
  · simp at hcs; unfold maxLen at h2; exact ⟨by omega, by omega, fun h => by rw [hcs.1] at h; cases h⟩
theorem bool_of (n : Nat) (cs : List Value) (x : DataW H × List MemPlace) (h : DataW.trod enc' Tryz.prog W 0 (fun _ => true) true n 4 cs = some x) : ∃ s, cs = encB s ∧ okB s := by
  obtain ⟨s, e, _⟩ := DataW.trod_bool Tryz.underlying4 h
  exact ⟨s, e, trivial⟩
theorem uid_of (n : Nat) (cs : List Value) (x : DataW H × List MemPlace) (h : DataW.trod enc' Tryz.prog W 0 (fun _ => true) true n 59 cs = some x) : ∃ s, cs = encU s ∧ u64 s := by
  obtain ⟨s, e, _, ws⟩ := DataW.trod_int Tryz.underlying59 h
  exact ⟨s, e, bounds_u64 ws⟩
theorem slice_shape {T E : TypeId} (hT : Tryz.prog.underlying T = some (.slice E)) {n : Nat} {c0 : Value} {x : DataW H × List MemPlace} (h : DataW.trod enc' Tryz.prog W 0 (fun _ => true) true n T [c0] = some x) : ∃ a len cap, c0 = .slice a len cap := by
  rcases open_slice hT h with ⟨hcs, _⟩ | ⟨ad, l, c, m, n, D, Pl, hcs, _⟩
  · simp at hcs; exact ⟨_, _, _, hcs⟩
  · simp at hcs; exact ⟨_, _, _, hcs⟩
set_option maxRecDepth 100000 in
theorem pe_of {n : Nat} {cs : Array Value} {x : DataW H × List MemPlace} (hcs : cs.size = Tryz.prog.cellsOf 80) (h : DataW.trod enc' Tryz.prog W 0 (fun _ => true) true n 80 (Value.agg cs).cells.toList = some x) :
    ∃ (id pred : Int) (a : Option Addr) (len cap : Nat) (l : List Int), cs = #[.int .u64 id, .int .i64 pred, .slice a len cap] ∧ PeIn W id pred a len cap l := by
  obtain ⟨xs, m, _, _, hl, hlen, hf⟩ := DataW.trod_struct Tryz.underlying80 h
  rw [cellsPe] at hcs
  obtain ⟨l⟩ := cs
  match l, hcs with
  | [c0, c1, c2], _ =>
    match xs, hlen with
    | [y0, y1, y2], _ =>
      have f0 := hf 0 _ rfl
      have f1 := hf 1 _ rfl
      have f2 := hf 2 _ rfl
      simp [cellsU1, cellsI1, cellsLi, Value.cells] at f0 f1 f2
      obtain ⟨id, e0, _, wi⟩ := DataW.trod_int Tryz.underlying59 f0
      obtain ⟨pr, e1, _, wp⟩ := DataW.trod_int Tryz.underlying3 f1
      simp at e0 e1
      subst e0 e1
      obtain ⟨a, len, cap, rfl⟩ := slice_shape Tryz.underlying24 f2
      obtain ⟨t, ht⟩ := inrow_of 1 encI i64 0 24 3 Tryz.underlying24 cellsI1 (by omega) lenI (fun n cs x => int_of n cs x) (a := a) (len := len) (cap := cap) (by simpa [Value.cells] using f2)
      have hk := slice_caps Tryz.underlying24 f2
      exact ⟨id, pr, a, len, cap, t, rfl, bounds_u64 wi, bounds_i64 wp, ht, hk.1, hk.2.1, hk.2.2⟩
end

theorem below_one (w : World) (o : Obj) : Below w.heap.size w (w.alloc o) := (Below.refl _ _).alloc (Nat.le_refl _) _

/-- One row of a list of one-cell things. -/
theorem InRow.one {α : Type} {enc : α → List Value} {ok : α → Prop} {d : α} {w : World} {a : Option Addr} {len : Nat} {xs : List α} (h : InRow 1 enc ok d w a len xs) {v : α → Value} (hv : ∀ x, enc x = [v x]) {i : Nat} (hi : i < len) :
    ∃ b o, a = some ⟨b, o, none⟩ ∧ b < w.heap.size ∧ ok (xs.getD i d) ∧ w.cell? ⟨b, o + i, none⟩ = some (v (xs.getD i d)) := by
  rcases h.2.2 with h0 | ⟨b, o, ha, hlt, hc⟩
  · omega
  · have := (hc i hi).2 0 (by omega)
    rw [hv] at this
    exact ⟨b, o, ha, hlt, (hc i hi).1, by simpa using this⟩

theorem idI_rng {w : World} {a : Option Addr} {len : Nat} {ids : List Int} (h : IdIn w a len ids) (n : Int) : u64 (idI ids n) := by
  by_cases q : 0 ≤ n
  · rw [id_at q]
    by_cases q1 : n.toNat < len
    · obtain ⟨b, o, _, _, hk, _⟩ := h.one (v := Value.int .u64) (fun _ => rfl) q1
      exact hk
    · have : ids.length ≤ n.toNat := by rw [h.1]; omega
      simp [u64, List.getD, List.getElem?_eq_none this]
  · rw [id_neg (by omega)]; simp [u64]
end Go.Proofs.YtmajlldfiiokoaaGreatDoor
