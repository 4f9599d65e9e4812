/- Schemas, events and filters as plain lists: which are in form, which filter takes which event. No program in sight. -/
import Derived.Test.YtpepbhmdfjpblaaGreatDoorAid
import Derived.Test.YtpepbhmdfjpblaaGreatDoorRowMath
import Derived.WalkKit
namespace Go.Proofs.YtpepbhmdfjpblaaGreatDoor
open Go.RowKit

/-- A call's answer is a bool: is P true? -/
def Says (e : Ending) (P : Prop) : Prop := ∃ b, e = .returned (.bool b) ∧ (b = true ↔ P)
theorem Says.yes {P : Prop} (h : P) : Says (.returned (.bool true)) P := ⟨true, rfl, by simp [h]⟩
theorem Says.no {P : Prop} (h : ¬ P) : Says (.returned (.bool false)) P := ⟨false, rfl, by simp [h]⟩
theorem Says.dec {P Q : Prop} [Decidable Q] (h : Q ↔ P) : Says (.returned (.bool (decide Q))) P := ⟨_, rfl, by simpa using h⟩
theorem Says.iff {e : Ending} {P Q : Prop} (h : Says e P) (g : P ↔ Q) : Says e Q := by obtain ⟨b, e, hb⟩ := h; exact ⟨b, e, hb.trans g⟩

structure At where
  name : ByteArray
  kind : Int
  mn : Int
  mx : Int
structure Vl where
  num : Int
  str : ByteArray
structure Pd where
  name : ByteArray
  op : Int
  lo : Int
  hi : Int
  str : ByteArray
def At.agg (a : At) : Value := .agg #[.string a.name, .int .i64 a.kind, .int .i64 a.mn, .int .i64 a.mx]
def Vl.agg (v : Vl) : Value := .agg #[.int .i64 v.num, .string v.str]
def Pd.agg (p : Pd) : Value := .agg #[.string p.name, .int .i64 p.op, .int .i64 p.lo, .int .i64 p.hi, .string p.str]
def At.cells (a : At) : List Value := [.string a.name, .int .i64 a.kind, .int .i64 a.mn, .int .i64 a.mx]
def Vl.cells (v : Vl) : List Value := [.int .i64 v.num, .string v.str]
def Pd.cells (p : Pd) : List Value := [.string p.name, .int .i64 p.op, .int .i64 p.lo, .int .i64 p.hi, .string p.str]
theorem At.cells_len (a : At) : a.cells.length = 4 := rfl
theorem Vl.cells_len (a : Vl) : a.cells.length = 2 := rfl
theorem Pd.cells_len (a : Pd) : a.cells.length = 5 := rfl
def at0 : At := ⟨ByteArray.empty, 0, 0, 0⟩
def vl0 : Vl := ⟨0, ByteArray.empty⟩
def pd0 : Pd := ⟨ByteArray.empty, 0, 0, 0, ByteArray.empty⟩

def letterP (c : UInt8) : Prop := (97 : Int) ≤ (c.toNat : Int) ∧ (c.toNat : Int) ≤ 122
def digitP (c : UInt8) : Prop := (48 : Int) ≤ (c.toNat : Int) ∧ (c.toNat : Int) ≤ 57
instance (c : UInt8) : Decidable (letterP c) := by unfold letterP; infer_instance
instance (c : UInt8) : Decidable (digitP c) := by unfold digitP; infer_instance

structure NameOk (s : ByteArray) : Prop where
  lo : 1 ≤ s.size
  hi : s.size ≤ 12
  nin : s.toList ≠ [105, 110]
  nand : s.toList ≠ [97, 110, 100]
  ch : ∀ i (h : i < s.size), letterP s[i] ∨ (i ≠ 0 ∧ digitP s[i])
structure StrOk (s : ByteArray) : Prop where
  ch : ∀ i (h : i < s.size), (32 : Int) ≤ (s[i].toNat : Int) ∧ (s[i].toNat : Int) ≤ 126
  le : s.size ≤ 40

def AttrOk (a : At) : Prop := NameOk a.name ∧ ((a.kind = 1 ∧ -2147483648 ≤ a.mn ∧ a.mn ≤ a.mx ∧ a.mx ≤ 2147483648) ∨ (a.kind = 2 ∧ a.mn = 0 ∧ a.mx = 0))
def ValOk (a : At) (v : Vl) : Prop := (a.kind = 1 ∧ a.mn ≤ v.num ∧ v.num ≤ a.mx ∧ v.str = ByteArray.empty) ∨ (a.kind = 2 ∧ StrOk v.str ∧ v.num = 0)
def PredOk (a : At) (p : Pd) : Prop :=
  (p.op = 1 ∧ a.kind = 1 ∧ a.mn ≤ p.lo ∧ p.lo ≤ p.hi ∧ p.hi ≤ a.mx ∧ p.str = ByteArray.empty) ∨
  ((p.op = 2 ∨ (p.op = 3 ∧ p.str ≠ ByteArray.empty)) ∧ a.kind = 2 ∧ StrOk p.str ∧ p.lo = 0 ∧ p.hi = 0)
def Takes (p : Pd) (v : Vl) : Prop :=
  (p.op = 1 ∧ p.lo ≤ v.num ∧ v.num ≤ p.hi) ∨ (p.op = 2 ∧ v.str = p.str) ∨ (p.op ≠ 1 ∧ p.op ≠ 2 ∧ p.str.data.toList <+: v.str.data.toList)

/-- The place of the first attribute of a name. -/
def FindAt (az : List At) (n : ByteArray) (k : Nat) : Prop := k < az.length ∧ (az.getD k at0).name = n ∧ ∀ j, j < k → (az.getD j at0).name ≠ n
def FindNo (az : List At) (n : ByteArray) : Prop := ∀ j, j < az.length → (az.getD j at0).name ≠ n
def Found (az : List At) (n : ByteArray) (r : Int) : Prop := (∃ k : Nat, r = k ∧ FindAt az n k) ∨ (r = -1 ∧ FindNo az n)
theorem FindAt.uniq {az : List At} {n : ByteArray} {k l : Nat} (h : FindAt az n k) (g : FindAt az n l) : k = l := by
  rcases Nat.lt_trichotomy k l with h1 | h1 | h1
  · exact absurd h.2.1 (g.2.2 k h1)
  · exact h1
  · exact absurd g.2.1 (h.2.2 l h1)

def SchemaOk (az : List At) : Prop := 1 ≤ az.length ∧ az.length ≤ 4 ∧ ∀ i, i < az.length → AttrOk (az.getD i at0) ∧ ∀ j, j < i → (az.getD j at0).name ≠ (az.getD i at0).name
def EventOk (az : List At) (vs : List Vl) (pay : Nat) : Prop := vs.length = az.length ∧ pay ≤ 200 ∧ ∀ i, i < az.length → ValOk (az.getD i at0) (vs.getD i vl0)
def FilterOk (az : List At) (ps : List Pd) : Prop := 1 ≤ ps.length ∧ ps.length ≤ 4 ∧ ∀ i, i < ps.length → (∀ j, j < i → (ps.getD j pd0).name ≠ (ps.getD i pd0).name) ∧ ∃ k, FindAt az (ps.getD i pd0).name k ∧ PredOk (az.getD k at0) (ps.getD i pd0)
def MatchOk (az : List At) (ps : List Pd) (vs : List Vl) (pay : Nat) : Prop := FilterOk az ps ∧ EventOk az vs pay ∧ ∀ i, i < ps.length → ∃ k, FindAt az (ps.getD i pd0).name k ∧ Takes (ps.getD i pd0) (vs.getD k vl0)

/-- Attributes, values, predicates of a slice: they lie in block g from its beginning on (if there are any). -/
structure AtIn (w : World) (v : Value) (az : List At) : Prop where
  shape : ∃ a c, v = .slice a az.length c ∧ (0 < az.length → ∃ g, a = some ⟨g, 0, none⟩ ∧ g < w.heap.size ∧ az.length ≤ c ∧ (∀ j, j < az.length → w.cell? ⟨g, j * 4, none⟩ = some (.string (az.getD j at0).name) ∧ w.cell? ⟨g, j * 4 + 1, none⟩ = some (.int .i64 (az.getD j at0).kind) ∧ w.cell? ⟨g, j * 4 + 2, none⟩ = some (.int .i64 (az.getD j at0).mn) ∧ w.cell? ⟨g, j * 4 + 3, none⟩ = some (.int .i64 (az.getD j at0).mx)))
structure VlIn (w : World) (v : Value) (vs : List Vl) : Prop where
  shape : ∃ a c, v = .slice a vs.length c ∧ (0 < vs.length → ∃ g, a = some ⟨g, 0, none⟩ ∧ g < w.heap.size ∧ vs.length ≤ c ∧ (∀ j, j < vs.length → w.cell? ⟨g, j * 2, none⟩ = some (.int .i64 (vs.getD j vl0).num) ∧ w.cell? ⟨g, j * 2 + 1, none⟩ = some (.string (vs.getD j vl0).str)))
structure PdIn (w : World) (v : Value) (ps : List Pd) : Prop where
  shape : ∃ a c, v = .slice a ps.length c ∧ (0 < ps.length → ∃ g, a = some ⟨g, 0, none⟩ ∧ g < w.heap.size ∧ ps.length ≤ c ∧ (∀ j, j < ps.length → w.cell? ⟨g, j * 5, none⟩ = some (.string (ps.getD j pd0).name) ∧ w.cell? ⟨g, j * 5 + 1, none⟩ = some (.int .i64 (ps.getD j pd0).op) ∧ w.cell? ⟨g, j * 5 + 2, none⟩ = some (.int .i64 (ps.getD j pd0).lo) ∧ w.cell? ⟨g, j * 5 + 3, none⟩ = some (.int .i64 (ps.getD j pd0).hi) ∧ w.cell? ⟨g, j * 5 + 4, none⟩ = some (.string (ps.getD j pd0).str)))

theorem AtIn.below {w w' : World} {v : Value} {az : List At} (h : AtIn w v az) (hb : Below w.heap.size w w') : AtIn w' v az := by
  obtain ⟨a, c, hv, hh⟩ := h.shape
  refine ⟨a, c, hv, fun hp => ?_⟩
  obtain ⟨g, ha, hg, hc, hj⟩ := hh hp
  refine ⟨g, ha, Nat.lt_of_lt_of_le hg hb.size, hc, fun j hl => ?_⟩
  have e : ∀ o, w'.cell? ⟨g, o, none⟩ = w.cell? ⟨g, o, none⟩ := fun o => hb.cell (p := ⟨g, o, none⟩) hg
  simp only [e]; exact hj j hl
theorem VlIn.below {w w' : World} {v : Value} {az : List Vl} (h : VlIn w v az) (hb : Below w.heap.size w w') : VlIn w' v az := by
  obtain ⟨a, c, hv, hh⟩ := h.shape
  refine ⟨a, c, hv, fun hp => ?_⟩
  obtain ⟨g, ha, hg, hc, hj⟩ := hh hp
  refine ⟨g, ha, Nat.lt_of_lt_of_le hg hb.size, hc, fun j hl => ?_⟩
  have e : ∀ o, w'.cell? ⟨g, o, none⟩ = w.cell? ⟨g, o, none⟩ := fun o => hb.cell (p := ⟨g, o, none⟩) hg
  simp only [e]; exact hj j hl
theorem PdIn.below {w w' : World} {v : Value} {az : List Pd} (h : PdIn w v az) (hb : Below w.heap.size w w') : PdIn w' v az := by
  obtain ⟨a, c, hv, hh⟩ := h.shape
  refine ⟨a, c, hv, fun hp => ?_⟩
  obtain ⟨g, ha, hg, hc, hj⟩ := hh hp
  refine ⟨g, ha, Nat.lt_of_lt_of_le hg hb.size, hc, fun j hl => ?_⟩
  have e : ∀ o, w'.cell? ⟨g, o, none⟩ = w.cell? ⟨g, o, none⟩ := fun o => hb.cell (p := ⟨g, o, none⟩) hg
  simp only [e]; exact hj j hl

theorem getD_take {α : Type} (l : List α) (d : α) (i j : Nat) (h : j < i) : (l.take i).getD j d = l.getD j d := by
  simp [h]
end Go.Proofs.YtpepbhmdfjpblaaGreatDoor
