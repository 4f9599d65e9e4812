/- table.Children, Len. -/
import Derived.Test.YtffdknjocmfmfaaTbPut
import Derived.Test.YtffdknjocmfmfaaShelf
namespace Go.Proofs.Ytffdknjocmfmfaa
open Go.ChangeShapes Go.WideShapes Go.ChangeAt Go.RowKit
set_option linter.unusedVariables false

theorem clone_s (a : Option Addr) (len c : Nat) (L : List ByteArray) (w : World) (h : StrIn w a len L) (hl : len ≤ 100000) :
    Calls Try.prog 24 #[.slice a len c] w fun e w' => ∃ a' c', e = .returned (.slice a' len c') ∧ StrIn w' a' len L ∧ Below w.heap.size w w' ∧ ∀ b, a' = some b → w.heap.size ≤ b.block ∧ b.block < w'.heap.size := by
  cases a with
  | none =>
    have h0 : len = 0 := by
      rcases h.2 with q | ⟨b, o, q, _⟩
      · exact q
      · cases q
    subst h0
    refine (Try.slices_Clone_string_nil 0 c w).mono ?_
    rintro e w' ⟨rfl, rfl⟩
    exact ⟨none, 0, rfl, h, Below.refl _ _, fun b hb => by cases hb⟩
  | some ad =>
    have hsh : ∀ {w' : World} {v' : Value} {n : Nat} {xs : List Value}, w'.ownsRow w.heap.size 9 1 v' n xs → ∃ a' c', v' = .slice a' n c' ∧ ∀ b, a' = some b → w.heap.size ≤ b.block ∧ b.block < w'.heap.size := fun {w' v' n xs} hr => by
      rcases hr.2 with ⟨h1, h2⟩ | ⟨g, cap, cur, h1, h2, h3, _⟩
      · exact ⟨none, 0, by rw [h1, h2], fun b hb => by cases hb⟩
      · exact ⟨_, cap, h1, fun b hb => by cases hb; exact ⟨h2, lt_blk h3⟩⟩
    rcases h.2 with h0 | ⟨b, o, ha, hlt, hc⟩
    · subst h0
      have hL : L = [] := List.eq_nil_of_length_eq_zero h.1
      refine (Try.slices_Clone_string_zero ad c w).mono ?_
      rintro e w' ⟨v', rfl, hr, _, hb⟩
      obtain ⟨a', c', rfl, hn⟩ := hsh hr
      exact ⟨a', c', rfl, ⟨h.1, .inl rfl⟩, hb, hn⟩
    · cases ha
      have hln := h.1
      refine (Try.slices_Clone_string b o len c L w (by omega) (by omega) (fun j hj => hc j (by omega))).mono ?_
      rintro e w' ⟨v', rfl, hr, _, hb⟩
      obtain ⟨a', c', rfl, hn⟩ := hsh hr
      rw [List.take_of_length_le (by omega)] at hr
      exact ⟨a', c', rfl, strIn_own hr hln.symm, hb, hn⟩

theorem len_any (B r : Nat) (v : Value) (X : List Ep) (w : World) (h : Tb w B r v X) :
    Calls Try.prog 7 #[.pointer (some ⟨r, 0, none⟩)] w fun e w' => e = .returned (.int .i64 X.length) ∧ w' = w := by
  obtain ⟨a, c, hv⟩ := h.shape
  subst hv
  have x0 := h.cell
  have xl := h.lt
  clear h
  go_enter Try.func7, Try.ntmps7
  go_wp2
  go_ret
  exact ⟨rfl, rfl⟩

/-- What an entry says. -/
structure Core where
  gr : ByteArray
  ch : Int
  any : Bool
  till : Int
  fs : List ByteArray
def Ep.core (x : Ep) : Core := ⟨x.gr, x.ch, x.any, x.till, x.fs⟩
/-- Entries in a row of one's own, and nothing of before has turned. -/
structure ERow (w0 w : World) (v : Value) (Y : List Ep) : Prop where
  row : w.ownsRow w0.heap.size 32 5 v Y.length (Y.flatMap Ep.cells)
  fil : ∀ y ∈ Y, StrIn w y.a y.ln y.fs ∧ y.ln ≤ 100000 ∧ ∀ b, y.a = some b → b.block < w.heap.size ∧ v.ownBlock ≠ some b.block
  bel : Below w0.heap.size w0 w
theorem ERow.below {w0 w w' : World} {v : Value} {Y : List Ep} (h : ERow w0 w v Y) (hb : Below w.heap.size w w') : ERow w0 w' v Y :=
  ⟨row_atJ h.row (fun k hk => hb.block k (h.row.lt k hk).2), fun y hy => ⟨(h.fil y hy).1.below (Nat.le_refl _) hb, (h.fil y hy).2.1, fun b hx => ⟨Nat.lt_of_lt_of_le ((h.fil y hy).2.2 b hx).1 hb.size, ((h.fil y hy).2.2 b hx).2⟩⟩, h.bel.trans (hb.mono h.bel.size)⟩
theorem ERow.nil {w0 w : World} (h : Below w0.heap.size w0 w) : ERow w0 w (.slice none 0 0) [] := ⟨World.ownsRow_nil _ _ _ _, (fun y hy => by cases hy), h⟩
theorem ERow.app {w0 w w2 : World} {v v' : Value} {Y : List Ep} {x : Ep} (h : ERow w0 w v Y) (hx : StrIn w x.a x.ln x.fs) (hl : x.ln ≤ 100000) (hc : ∀ b, x.a = some b → b.block < w.heap.size ∧ v.ownBlock ≠ some b.block)
    (ha : Appended5 w0.heap.size 32 w w2 v v' (Y.length + 1) (Y.flatMap Ep.cells ++ x.cells)) : ERow w0 w2 v' (Y ++ [x]) := by
  have hg := ha.grown
  have hfar : ∀ y : Ep, (StrIn w y.a y.ln y.fs ∧ y.ln ≤ 100000 ∧ ∀ b, y.a = some b → b.block < w.heap.size ∧ v.ownBlock ≠ some b.block) → StrIn w2 y.a y.ln y.fs ∧ y.ln ≤ 100000 ∧ ∀ b, y.a = some b → b.block < w2.heap.size ∧ v'.ownBlock ≠ some b.block := fun y hy =>
    ⟨hy.1.at hg.size (fun b hb => hg.block _ (hy.2.2 b hb).1 (fun e => (hy.2.2 b hb).2 e.symm)), hy.2.1, fun b hb => ⟨Nat.lt_of_lt_of_le (hy.2.2 b hb).1 hg.size, fun e => by
      rcases ha.new _ e with q | q
      · exact (hy.2.2 b hb).2 q
      · have := (hy.2.2 b hb).1; omega⟩⟩
  refine ⟨?_, fun y hy => ?_, h.bel.trans ⟨hg.os, hg.tape, hg.output, hg.size, fun k hk => hg.block k (Nat.lt_of_lt_of_le hk h.bel.size) (fun e => by have := (h.row.lt k e.symm).1; omega)⟩⟩
  · have := ha.row; simpa using this
  · rcases List.mem_append.1 hy with q | q
    · exact hfar y (h.fil y q)
    · rw [List.mem_singleton.1 q]; exact hfar x ⟨hx, hl, hc⟩
theorem ERow.shape {w0 w : World} {v : Value} {Y : List Ep} (h : ERow w0 w v Y) : ∃ a c, v = .slice a Y.length c := by
  rcases h.row.2 with ⟨rfl, h2⟩ | ⟨gg, c, cur, hv, _⟩
  · exact ⟨none, 0, by rw [h2]⟩
  · exact ⟨_, c, hv⟩
theorem ERow.ent {w0 w : World} {a : Option Addr} {c : Nat} {Y : List Ep} (h : ERow w0 w (.slice a Y.length c) Y) (hl : Y.length ≤ 100000) : EntIn w a Y.length Y := by
  refine ⟨rfl, hl, ?_⟩
  rcases h.row.2 with ⟨_, h0⟩ | ⟨g, cap, cur, hv, _, hg, _⟩
  · exact .inl h0
  · have hc := h.row.cells (g := g) (by rw [hv]; rfl)
    simp only [Value.slice.injEq] at hv
    refine .inr ⟨g, 0, hv.1, lt_blk hg, fun i hi => ⟨⟨(h.fil _ (getD_memL ep0 Y i hi)).1, (h.fil _ (getD_memL ep0 Y i hi)).2.1⟩, fun j hj => ?_⟩⟩
    have hx := flat_get Ep.cells 5 Ep.cells_len ep0 Y i j hi hj
    have hj' : j < (Y.getD i ep0).cells.length := hj
    have e := hc (i * 5 + j) ((Y.getD i ep0).cells[j]) (by rw [hx, List.getElem?_eq_getElem hj'])
    rw [Addr.add_lit] at e
    rw [Nat.add_assoc, e, List.getElem?_eq_getElem hj']
theorem srcE (w : World) (x : Ep) (z : Nat) (hz : z = w.heap.size) :
    Src Try.prog 5 22 (.slice (some ⟨z, 0, none⟩) 1 1) 1 x.cells (w.alloc (.cells #[.string x.gr, .int .i64 x.ch, .slice x.a x.ln x.cp, .bool x.any, .int .i64 x.till] 32)) := by
  subst hz
  exact srcEnt _ x.cells w.heap.size (heap_alloc_new w _) rfl (fun v hv => by
    simp only [Ep.cells, List.mem_cons, List.not_mem_nil, or_false] at hv
    rcases hv with rfl | rfl | rfl | rfl | rfl <;> rfl)
theorem filter_take_succ (p : Ep → Bool) (X : List Ep) (i : Nat) (hi : i < X.length) : (X.take (i + 1)).filter p = (X.take i).filter p ++ (if p (X.getD i ep0) then [X.getD i ep0] else []) := by
  rw [List.take_succ_eq_append_getElem hi, List.filter_append, getD_getElemL ep0 X i hi]
  by_cases h : p X[i] = true <;> simp [h]
end Go.Proofs.Ytffdknjocmfmfaa
