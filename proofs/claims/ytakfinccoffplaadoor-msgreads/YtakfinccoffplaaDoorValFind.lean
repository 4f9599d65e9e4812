/- value.takes, strings.HasPrefix; value.Find and its closures, slices.IndexFunc, ContainsFunc. -/
import Derived.Test.YtakfinccoffplaaDoorValBits2
import Derived.Deep.LoopGhost
import Derived.Deep.QuietTactic
import Derived.BigQuiet
import Derived.RegionTactic
namespace Go.Proofs.YtakfinccoffplaaDoor
open Go.ChangeShapes Go.WideShapes Go.ChangeAt Go.RowKit
set_option linter.unusedVariables false

theorem takes_1 {k q s : ByteArray} {lo hi n : Int} : Takes ⟨k, 1, lo, hi, q⟩ ⟨n, s⟩ ↔ (lo ≤ n ∧ n ≤ hi) := by simp [Takes]
theorem takes_2 {k q s : ByteArray} {lo hi n : Int} : Takes ⟨k, 2, lo, hi, q⟩ ⟨n, s⟩ ↔ s = q := by simp [Takes]
theorem takes_3 {k q s : ByteArray} {op lo hi n : Int} (h1 : op ≠ 1) (h2 : op ≠ 2) : Takes ⟨k, op, lo, hi, q⟩ ⟨n, s⟩ ↔ q.data.toList <+: s.data.toList := by simp [Takes, h1, h2]
theorem toList_inj {s t : ByteArray} : s.toList = t.toList ↔ s = t := by
  constructor
  · intro h
    have h' : s.data.toList = t.data.toList := by simpa [ByteArray.toList_eq] using h
    cases s; cases t; simp at h'; simp [h']
  · rintro rfl; rfl

theorem AtIn.row {w : World} {a : Option Addr} {n c : Nat} {az : List At} (h : AtIn w (.slice a n c) az) (k : Nat) (hk : k < az.length) :
    ∃ g, a = some ⟨g, 0, none⟩ ∧ g < w.heap.size ∧ az.length ≤ c ∧ w.cell? ⟨g, k * 4, none⟩ = some (.string (az.getD k at0).name) ∧ w.cell? ⟨g, k * 4 + 1, none⟩ = some (.int .i64 (az.getD k at0).kind) ∧ w.cell? ⟨g, k * 4 + 2, none⟩ = some (.int .i64 (az.getD k at0).mn) ∧ w.cell? ⟨g, k * 4 + 3, none⟩ = some (.int .i64 (az.getD k at0).mx) := by
  obtain ⟨a', c', e, hh⟩ := h.shape
  obtain ⟨g, ha, hg, hc, hj⟩ := hh (by omega)
  simp at e
  obtain ⟨rfl, rfl, rfl⟩ := e
  exact ⟨g, ha, hg, hc, hj k hk⟩
theorem VlIn.row {w : World} {a : Option Addr} {n c : Nat} {az : List Vl} (h : VlIn w (.slice a n c) az) (k : Nat) (hk : k < az.length) :
    ∃ g, a = some ⟨g, 0, none⟩ ∧ g < w.heap.size ∧ az.length ≤ c ∧ w.cell? ⟨g, k * 2, none⟩ = some (.int .i64 (az.getD k vl0).num) ∧ w.cell? ⟨g, k * 2 + 1, none⟩ = some (.string (az.getD k vl0).str) := by
  obtain ⟨a', c', e, hh⟩ := h.shape
  obtain ⟨g, ha, hg, hc, hj⟩ := hh (by omega)
  simp at e
  obtain ⟨rfl, rfl, rfl⟩ := e
  exact ⟨g, ha, hg, hc, hj k hk⟩
theorem PdIn.row {w : World} {a : Option Addr} {n c : Nat} {az : List Pd} (h : PdIn w (.slice a n c) az) (k : Nat) (hk : k < az.length) :
    ∃ g, a = some ⟨g, 0, none⟩ ∧ g < w.heap.size ∧ az.length ≤ c ∧ w.cell? ⟨g, k * 5, none⟩ = some (.string (az.getD k pd0).name) ∧ w.cell? ⟨g, k * 5 + 1, none⟩ = some (.int .i64 (az.getD k pd0).op) ∧ w.cell? ⟨g, k * 5 + 2, none⟩ = some (.int .i64 (az.getD k pd0).lo) ∧ w.cell? ⟨g, k * 5 + 3, none⟩ = some (.int .i64 (az.getD k pd0).hi) ∧ w.cell? ⟨g, k * 5 + 4, none⟩ = some (.string (az.getD k pd0).str) := by
  obtain ⟨a', c', e, hh⟩ := h.shape
  obtain ⟨g, ha, hg, hc, hj⟩ := hh (by omega)
  simp at e
  obtain ⟨rfl, rfl, rfl⟩ := e
  exact ⟨g, ha, hg, hc, hj k hk⟩

end Go.Proofs.YtakfinccoffplaaDoor
