/- Rows of entries that came in. -/
import Derived.Test.YtffdknjocmfmfaaTbCut
import Derived.Test.YtffdknjocmfmfaaInRow
namespace Go.Proofs.Ytffdknjocmfmfaa
open Go.ChangeShapes Go.WideShapes Go.ChangeAt Go.RowKit Go.Deep
set_option linter.unusedVariables false
/-- An entry that came in: its texts, its filters. -/
def EpOk (W : World) (x : Ep) : Prop := x.gr.size ≤ maxLen ∧ i64 x.ch ∧ i64 x.till ∧ StrIn W x.a x.ln x.fs ∧ (∀ s ∈ x.fs, s.size ≤ maxLen) ∧ x.ln ≤ maxLen
section
variable {H : Type} {enc' : TypeId × Value → H} {W : World}
theorem cellsB1 : Try.prog.cellsOf 4 = 1 := by kernel_rfl
theorem cellsSl1 : Try.prog.cellsOf 30 = 1 := by kernel_rfl
theorem cellsEnt : Try.prog.cellsOf 32 = 5 := by kernel_rfl
theorem strIn_of {a : Option Addr} {len : Nat} {xs : List ByteArray} (h : InRow 1 encS okS ByteArray.empty W a len xs) : StrIn W a len xs ∧ ∀ s ∈ xs, len = 0 ∨ s.size ≤ maxLen := by
  refine ⟨⟨h.1, ?_⟩, fun s hs => ?_⟩
  · rcases h.2.2 with h0 | ⟨b, o, ha, hlt, hc⟩
    · exact .inl h0
    · refine .inr ⟨b, o, ha, hlt, fun j hj => ?_⟩
      have := (hc j hj).2 0 (by omega)
      simpa [encS] using this
  · rcases h.2.2 with h0 | ⟨b, o, ha, hlt, hc⟩
    · exact .inl h0
    · obtain ⟨t, ht, rfl⟩ := mem_getDL ByteArray.empty hs
      have := (hc t (by rw [← h.1]; exact ht)).1
      unfold okS at this
      exact .inr (by unfold maxLen; exact this)
set_option maxRecDepth 100000 in
theorem ent_of (n : Nat) (cs : List Value) (x : DataW H × List MemPlace) (h : DataW.trod enc' Try.prog W 0 (fun _ => true) true n 32 cs = some x) : ∃ t : Ep, cs = t.cells ∧ EpOk W t := by
  obtain ⟨xs, m, _, _, hl, hlen, hf⟩ := DataW.trod_struct Try.underlying32 h
  rw [cellsEnt] at hl
  match cs, hl with
  | [c0, c1, c2, c3, c4], _ =>
    match xs, hlen with
    | [y0, y1, y2, y3, y4], _ =>
      have f0 := hf 0 _ rfl
      have f1 := hf 1 _ rfl
      have f2 := hf 2 _ rfl
      have f3 := hf 3 _ rfl
      have f4 := hf 4 _ rfl
      simp [cellsI1, cellsS1, cellsB1, cellsSl1] at f0 f1 f2 f3 f4
      obtain ⟨s, e0, _, ws⟩ := DataW.trod_string Try.underlying9 f0
      obtain ⟨k, e1, _, wk⟩ := DataW.trod_int Try.underlying3 f1
      obtain ⟨b, e3, _⟩ := DataW.trod_bool Try.underlying4 f3
      obtain ⟨t, e4, _, wt⟩ := DataW.trod_int Try.underlying3 f4
      simp at e0 e1 e3 e4
      subst e0 e1 e3 e4
      obtain ⟨a, len, cap, hcap, rfl⟩ : ∃ a len cap, len ≤ maxLen ∧ c2 = .slice a len cap := by
        rcases DataW.trod_slice Try.underlying30 f2 with ⟨e, _⟩ | ⟨a, len, cap, _, _, _, _, e, _, _, h1, h2, _⟩
        · simp at e; exact ⟨none, 0, 0, by simp, e⟩
        · simp at e; exact ⟨some a, len, cap, by omega, e⟩
      obtain ⟨fs, hfs⟩ := inrow_of 1 encS okS ByteArray.empty 30 9 Try.underlying30 cellsS1 (by omega) lenS (fun n cs x => str_of n cs x) (a := a) (len := len) (cap := cap) (fuel := m) f2
      obtain ⟨q1, q2⟩ := strIn_of hfs
      refine ⟨⟨s, k, a, len, cap, b, t, fs⟩, rfl, ws, bounds_i64 wk, bounds_i64 wt, q1, fun u hu => ?_, hcap⟩
      rcases q2 u hu with h0 | h0
      · have : fs.length = 0 := by rw [q1.1, h0]
        rw [List.eq_nil_of_length_eq_zero this] at hu; cases hu
      · exact h0
theorem ent_end : True := trivial
end
/-- One entry of those that came in. -/
theorem ent_at {w wr : World} {a : Option Addr} {len : Nat} {t : List Ep} (h : InRow 5 Ep.cells (EpOk w) ep0 w a len t) (hB : Below w.heap.size w wr) {i : Nat} (hi : i < len) :
    ∃ b o, a = some ⟨b, o, none⟩ ∧ b < wr.heap.size ∧ EpOk w (t.getD i ep0) ∧ wr.cell? ⟨b, o + i * 5, none⟩ = some (.string (t.getD i ep0).gr) ∧ wr.cell? ⟨b, o + i * 5 + 1, none⟩ = some (.int .i64 (t.getD i ep0).ch) ∧ wr.cell? ⟨b, o + i * 5 + 2, none⟩ = some (.slice (t.getD i ep0).a (t.getD i ep0).ln (t.getD i ep0).cp) ∧ wr.cell? ⟨b, o + i * 5 + 3, none⟩ = some (.bool (t.getD i ep0).any) ∧ wr.cell? ⟨b, o + i * 5 + 4, none⟩ = some (.int .i64 (t.getD i ep0).till) := by
  obtain ⟨b, o, ha, hb, hc⟩ := h.2.2.resolve_left (by omega)
  obtain ⟨hok, hcell⟩ := hc i hi
  have hh : ∀ j, j < 5 → wr.cell? ⟨b, o + i * 5 + j, none⟩ = (t.getD i ep0).cells[j]? := fun j hj => (hB.cell (p := ⟨b, o + i * 5 + j, none⟩) hb).trans (hcell j hj)
  refine ⟨b, o, ha, by have := hB.size; omega, hok, ?_, ?_, ?_, ?_, ?_⟩
  · have := hh 0 (by omega); simpa [Ep.cells] using this
  · have := hh 1 (by omega); simpa [Ep.cells] using this
  · have := hh 2 (by omega); simpa [Ep.cells] using this
  · have := hh 3 (by omega); simpa [Ep.cells] using this
  · have := hh 4 (by omega); simpa [Ep.cells] using this
/-- What Cut makes of one that came in. -/
theorem cutIn {w wr : World} {x : Ep} (hx : EpOk w x) (hB : Below w.heap.size w wr) :
    Calls Try.prog 6 #[.agg #[.string x.gr, .int .i64 x.ch, .slice x.a x.ln x.cp, .bool x.any, .int .i64 x.till]] wr fun e w' =>
      ∃ a' n' c', e = .returned (.agg #[.string (cut x.gr 30), .int .i64 x.ch, .slice a' n' c', .bool x.any, .int .i64 x.till]) ∧ StrIn w' a' n' (cutF x.fs) ∧ n' ≤ 20 ∧ Below wr.heap.size wr w' :=
  cut13_any x.gr x.ch x.a x.ln x.cp x.any x.till x.fs wr (hx.2.2.2.1.below (Nat.le_refl _) hB) hx.1 hx.2.2.2.2.1 hx.2.2.2.2.2
end Go.Proofs.Ytffdknjocmfmfaa
