/- Wishes that are handed on: three tables and a window. -/
import Derived.Test.YtffdknjocmfmfaaTbMvM
import Derived.Test.YtffdknjocmfmfaaTbAnyM
import Derived.Test.YtffdknjocmfmfaaWiLaw
import Derived.Test.YtffdknjocmfmfaaPrW
import Derived.Test.YtffdknjocmfmfaaOwnSrc
namespace Go.Proofs.Ytffdknjocmfmfaa
open Go.ChangeShapes Go.WideShapes Go.ChangeAt Go.RowKit
set_option linter.unusedVariables false

/-- Three tables, and behind them a window; T: what is read beside them. -/
structure HdS (B : Nat) (w0 w : World) (X : Nat → List Ep) (L : List (Int × Int)) (T : Nat → Prop) : Prop where
  st : ∃ g, TabF B w0 w 3 X (fun k => winB (B + 3) g k ∨ T k) (winB (B + 3) g) ∧ WinAt w (B + 3) g L ∧ (∀ b, g = some b → B ≤ b) ∧ ∀ k, T k → ¬ winB (B + 3) g k
theorem HdS.bel {B : Nat} {w0 w : World} {X : Nat → List Ep} {L : List (Int × Int)} {T : Nat → Prop} (h : HdS B w0 w X L T) : Below B w0 w := by
  obtain ⟨g, hT, _⟩ := h.st
  exact hT.bel
theorem HdS.size {B : Nat} {w0 w : World} {X : Nat → List Ep} {L : List (Int × Int)} {T : Nat → Prop} (h : HdS B w0 w X L T) : B ≤ w.heap.size := by
  obtain ⟨g, hT, _⟩ := h.st
  exact hT.size
theorem HdS.own {B : Nat} {w0 w : World} {X : Nat → List Ep} {L : List (Int × Int)} {T : Nat → Prop} (h : HdS B w0 w X L T) {i : Nat} (hi : i < 3) : OwnT B w0 w (B + i) (X i) := by
  obtain ⟨g, hT, _⟩ := h.st
  exact hT.own hi
theorem HdS.asc {B : Nat} {w0 w : World} {X : Nat → List Ep} {L : List (Int × Int)} {T : Nat → Prop} (h : HdS B w0 w X L T) {i : Nat} (hi : i < 3) : Asc ltK ((X i).map Ep.key) := by
  obtain ⟨g, hT, _⟩ := h.st
  exact hT.asc hi
theorem HdS.below {B : Nat} {w0 w w' : World} {X : Nat → List Ep} {L : List (Int × Int)} {T : Nat → Prop} (h : HdS B w0 w X L T) (hb : Below w.heap.size w w') : HdS B w0 w' X L T := by
  obtain ⟨g, hT, hW, hg, htw⟩ := h.st
  exact ⟨g, hT.below hb, hW.below hb, hg, htw⟩
theorem HdS.sub {B : Nat} {w0 w : World} {X : Nat → List Ep} {L : List (Int × Int)} {T T' : Nat → Prop} (h : HdS B w0 w X L T) (hs : ∀ k, T' k → T k) : HdS B w0 w X L T' := by
  obtain ⟨g, hT, hW, hg, htw⟩ := h.st
  exact ⟨g, hT.sub (fun k hk => hk.imp id (hs k)), hW, hg, fun k hk => htw k (hs k hk)⟩
theorem win_frm {B : Nat} {w w' : World} {g : Option Nat} {L : List (Int × Int)} {T : Nat → Prop} (h : WinAt w (B + 3) g L) (hf : Frm (fun k => winB (B + 3) g k ∨ T k) w w') : WinAt w' (B + 3) g L :=
  h.kept (hf.block _ (.inl (.inl rfl))) (fun x hx => hf.block x (.inl (.inr hx)))
theorem HdS.put {B : Nat} {w0 w : World} {X : Nat → List Ep} {L : List (Int × Int)} {T : Nat → Prop} (h : HdS B w0 w X L T) (i : Nat) (hi : i < 3) (r : Nat) (hr : r = B + i) (gr : ByteArray) (c : Int) (fa : Option Addr) (fl fc : Nat) (any : Bool) (till : Int) (fs : List ByteArray) (hf : StrIn w fa fl fs) (hfl : fl ≤ 100000) (hroom : (X i).length < 400) :
    Calls Try.prog 5 #[.pointer (some ⟨r, 0, none⟩), .agg #[.string gr, .int .i64 c, .slice fa fl fc, .bool any, .int .i64 till]] w fun e w' =>
      e = .returned .nilIface ∧ ∃ x', (x'.key = (gr, c) ∧ x'.want = cleanW (any, fs)) ∧ HdS B w0 w' (upd X i (putE (X i) x')) L T ∧ Frm T w w' := by
  obtain ⟨g, hT, hW, hg, htw⟩ := h.st
  refine (hT.put i hi r hr gr c fa fl fc any till fs hf hfl hroom).mono ?_
  rintro e w' ⟨rfl, x', hx, hT', hF⟩
  exact ⟨rfl, x', ⟨hx.1, hx.2.2⟩, ⟨g, hT', win_frm hW hF, hg, htw⟩, hF.sub (fun k hk => .inr hk)⟩
theorem HdS.move {B : Nat} {w0 w : World} {X : Nat → List Ep} {L : List (Int × Int)} {T : Nat → Prop} (h : HdS B w0 w X L T) (i : Nat) (hi : i < 3) (r : Nat) (hr : r = B + i) (a b : Int) (hx : ∀ x ∈ X i, x.gr.size ≤ 200) :
    Calls Try.prog 8 #[.pointer (some ⟨r, 0, none⟩), .int .u64 a, .int .u64 b] w fun e w' => ∃ a' c, e = .returned (.slice a' ((X i).filter (goesB a b)).length c) ∧
      HdS B w0 w' (upd X i ((X i).filter (fun x => !goesB a b x))) L (fun k => T k ∨ rdE (.slice a' ((X i).filter (goesB a b)).length c) ((X i).filter (goesB a b)) k) ∧ EntIn w' a' ((X i).filter (goesB a b)).length ((X i).filter (goesB a b)) ∧ Frm T w w' := by
  obtain ⟨g, hT, hW, hg, htw⟩ := h.st
  refine (hT.move i hi r hr a b hx).mono ?_
  rintro e w' ⟨a', c, rfl, hT', hE, hF, hoff⟩
  refine ⟨a', c, rfl, ⟨g, hT'.sub (fun k hk => ?_), win_frm hW hF, hg, fun k hk => hk.elim (htw k) (hoff k)⟩, hE, hF.sub (fun k hk => .inr hk)⟩
  rcases hk with q | q | q
  · exact .inl (.inl q)
  · exact .inl (.inr q)
  · exact .inr q
theorem HdS.come {B : Nat} {w0 w : World} {X : Nat → List Ep} {L : List (Int × Int)} {T : Nat → Prop} (h : HdS B w0 w X L T) (r : Nat) (hr : r = B + 3) (p n : Int) (hn : EvOk p n) :
    Calls Try.prog 12 #[.pointer (some ⟨r, 0, none⟩), .int .i64 p, .int .i64 n] w fun e w' => e = .returned (.tuple #[.int .i64 (whatL L p n), .nilIface]) ∧ HdS B w0 w' X (comeL L p n) T ∧ Frm T w w' := by
  subst hr
  obtain ⟨g, hT, hW, hg, htw⟩ := h.st
  refine (come_any (B + 3) g L p n w hW hn).mono ?_
  rintro e w' ⟨rfl, g', hW', hk, hor⟩
  have hsz := hT.size
  have hlo : ∀ b, winB (B + 3) g b → B ≤ b := by
    rintro b (rfl | hb)
    · omega
    · exact hg b hb
  have hnew : ∀ b, winB (B + 3) g' b → winB (B + 3) g b ∨ w.heap.size ≤ b := by
    rintro b (rfl | hb)
    · exact .inl (.inl rfl)
    · rcases hor with e | ⟨b', e, h'⟩
      · exact .inl (.inr (by rw [← e]; exact hb))
      · rw [e] at hb; cases hb; exact .inr h'
  refine ⟨rfl, ⟨g', ?_, hW', fun b hb => ?_, fun k hk' q => ?_⟩, hk.size, fun b hb => hk.block b (hT.lt b (.inr hb)) (htw b hb)⟩
  · exact hT.turn (F' := winB (B + 3) g') (hk.below hlo hsz) hk.block (fun b hb => .inl hb) hnew (fun b hb => hW'.blocks hb) (fun b hb => .inr hb)
  · rcases hor with e | ⟨b', e, h'⟩
    · exact hg b (by rw [← e]; exact hb)
    · rw [e] at hb; cases hb; omega
  · rcases hnew k q with r | r
    · exact htw k hk' r
    · have := hT.lt k (.inr hk'); omega
theorem HdS.addT {B : Nat} {w0 w w' : World} {X : Nat → List Ep} {L : List (Int × Int)} {T : Nat → Prop} (h : HdS B w0 w X L (fun _ => False)) (hb : Below w.heap.size w w') (hT : ∀ b, T b → w.heap.size ≤ b ∧ b < w'.heap.size) : HdS B w0 w' X L T := by
  obtain ⟨g, hF, hW, hg, _⟩ := h.st
  refine ⟨g, (hF.addS hb hT).sub (fun k hk => hk.imp .inl id), hW.below hb, hg, fun k hk q => ?_⟩
  have := hF.ltF k q
  have := (hT k hk).1
  omega
/-- At the start: three boxes, and the window's behind them. -/
theorem HdS.start {w w' : World} (hb : Below w.heap.size w w') (hbox : ∀ i, i < 3 → w'.heap[w.heap.size + i]? = some (.cells #[.slice none 0 0] 26 (0, 0))) (hwin : w'.heap[w.heap.size + 3]? = some (.cells #[.map none] 43 (0, 0))) : HdS w.heap.size w w' (fun _ => []) [] (fun _ => False) := by
  have hW : WinAt w' (w.heap.size + 3) none [] := ⟨hwin, wok_nil, rfl⟩
  refine ⟨none, (TabF.start 3 (winB (w.heap.size + 3) none) hb.size hb hbox (fun i hi q => ?_) (fun b q => hW.blocks q)).sub (fun k hk => hk.elim id False.elim), hW, (fun b hb => by cases hb), fun k hk => hk.elim⟩
  rcases q with q | q
  · omega
  · cases q
/-- A row of places that grows. -/
structure IdS (w wr : World) (v : Value) (L : List Int) : Prop where
  row : wr.ownsRow w.heap.size 24 1 v L.length (L.map (Value.int .u64))
  bel : Below w.heap.size w wr
theorem IdS.below {w wr w' : World} {v : Value} {L : List Int} (h : IdS w wr v L) (hb : Below wr.heap.size wr w') : IdS w w' v L :=
  ⟨row_atJ h.row (fun k hk => hb.block k (h.row.lt k hk).2), h.bel.trans (hb.mono h.bel.size)⟩
theorem IdS.app {w wr w2 : World} {v v' : Value} {L N : List Int} (h : IdS w wr v L)
    (ha : Appended w.heap.size 24 wr w2 v v' (L.length + N.length) (L.map (Value.int .u64) ++ N.map (Value.int .u64))) : IdS w w2 v' (L ++ N) := by
  have hg := ha.grown
  refine ⟨?_, h.bel.trans ⟨hg.os, hg.tape, hg.output, hg.size, fun k hk => hg.block k (Nat.lt_of_lt_of_le hk h.bel.size) (fun e => by have := (h.row.lt k e.symm).1; omega)⟩⟩
  have := ha.row
  rw [List.length_append, List.map_append]
  exact this
theorem IdS.new (w : World) : IdS w (w.alloc (.cells #[] 24)) (.slice (some ⟨w.heap.size, 0, none⟩) 0 0) [] :=
  ⟨⟨rfl, .inr ⟨w.heap.size, 0, #[], rfl, Nat.le_refl _, heap_alloc_new w _, Nat.le_refl _, Nat.zero_le _, rfl, rfl⟩⟩, (Below.refl _ _).alloc (Nat.le_refl _) _⟩
theorem infoId_parts : ∃ i, Try.prog.info? 24 = some i ∧ i.zero = some (.int .u64 0) ∧ i.size = 1 ∧ i.bytes = 8 := by
  have h : (Try.prog.info? 24).map (fun i => (i.zero, i.size, i.bytes)) = some (some (.int .u64 0), 1, 8) := by kernel_rfl
  cases hi : Try.prog.info? 24 with
  | none => rw [hi] at h; cases h
  | some i => rw [hi] at h; simp at h; exact ⟨i, rfl, h.1, h.2.1, h.2.2⟩
/-- Places that come in, as a source. -/
theorem src_in {w W : World} {a : Option Addr} {n c : Nat} {zs : List Int} (h : InRow 1 encU u64 0 w a n zs) (hb : Below w.heap.size w W) (hnil : a = none → n = 0) : Src Try.prog 1 40 (.slice a n c) n (zs.map (Value.int .u64)) W := by
  by_cases h0 : n = 0
  · subst h0
    have : zs = [] := List.eq_nil_of_length_eq_zero h.1
    subst this
    cases a with
    | none => exact Src.ofNil _ Try.underlying40 c
    | some x => exact Src.ofSlice _ Try.underlying40 x 0 c [] rfl (fun j u hu => by simp at hu) (by simp)
  · obtain ⟨b, o, rfl, hlt, hc⟩ := h.2.2.resolve_left h0
    refine Src.ofSlice _ Try.underlying40 _ n c _ (by simp [h.1]) (fun j u hu => ?_) (fun u hu => ?_)
    · have hj : j < n := by
        have := (List.getElem?_eq_some_iff.1 hu).1
        simpa [h.1] using this
      have e := (hc j hj).2 0 (by omega)
      have e2 : zs.getD j 0 = zs[j]'(by rw [h.1]; exact hj) := by simp [h.1, hj]
      rw [List.getElem?_map, List.getElem?_eq_getElem (by rw [h.1]; exact hj)] at hu
      simp only [Option.map_some, Option.some.injEq] at hu
      rw [Addr.add_lit, ← hu]
      have e3 : W.cell? ⟨b, o + j * 1 + 0, none⟩ = w.cell? ⟨b, o + j * 1 + 0, none⟩ := hb.cell (p := ⟨b, o + j * 1 + 0, none⟩) hlt
      rw [e, e2] at e3
      simpa [encU] using e3
    · obtain ⟨z, _, rfl⟩ := List.mem_map.1 hu; rfl
theorem InRow.take' {w : World} {a : Option Addr} {len : Nat} {zs : List Int} (h : InRow 1 encU u64 0 w a len zs) {n : Nat} (hn : n ≤ len) : InRow 1 encU u64 0 w a n (zs.take n) := by
  refine ⟨by rw [List.length_take, h.1]; omega, by have := h.2.1; omega, ?_⟩
  by_cases h0 : n = 0
  · exact .inl h0
  · obtain ⟨b, o, ha, hlt, hc⟩ := h.2.2.resolve_left (by omega)
    refine .inr ⟨b, o, ha, hlt, fun i hi => ?_⟩
    have e : (zs.take n).getD i 0 = zs.getD i 0 := by simp [List.getD, hi]
    rw [e]
    exact hc i (by omega)
theorem incap_of {H : Type} {enc' : TypeId × Value → H} {W : World} {TS E : TypeId} (hT : Try.prog.underlying TS = some (.slice E)) {fuel : Nat} {a : Option Addr} {len cap : Nat} {x : DataW H × List MemPlace} (h : DataW.trod enc' Try.prog W 0 (fun _ => true) true fuel TS (Value.slice a len cap).cells.toList = some x) : len ≤ cap := by
  rcases Go.Deep.open_slice hT h with ⟨hcs, _⟩ | ⟨ad, l, c, m, n, D, Pl, hcs, _, hl, hm, hmm, _, hx⟩
  · simp [Value.cells] at hcs; omega
  · simp [Value.cells] at hcs; obtain ⟨rfl, rfl, rfl⟩ := hcs; exact hl

/-- What an entry is but for its tick. -/
def Ep.kw (x : Ep) : (ByteArray × Int) × (Bool × List ByteArray) := (x.key, x.want)
theorem kw_putE {X : List Ep} (h : Asc ltK (X.map Ep.key)) (x : Ep) (q : (ByteArray × Int) × (Bool × List ByteArray)) : q ∈ (putE X x).map Ep.kw ↔ q = x.kw ∨ (q ∈ X.map Ep.kw ∧ q.1 ≠ x.key) := by
  simp only [List.mem_map]
  constructor
  · rintro ⟨y, hy, rfl⟩
    rcases (mem_putE h x y).1 hy with r | r
    · exact .inl (by rw [r])
    · exact .inr ⟨⟨y, r.1, rfl⟩, r.2⟩
  · rintro (rfl | ⟨⟨y, hy, rfl⟩, hne⟩)
    · exact ⟨x, (mem_putE h x x).2 (.inl rfl), rfl⟩
    · exact ⟨y, (mem_putE h x y).2 (.inr ⟨hy, hne⟩), rfl⟩
theorem cleanW_idem (y : Bool × List ByteArray) : cleanW (cleanW y) = cleanW y := by
  cases hj : joinE [] [y] with
  | none =>
    have e : cleanW y = (true, []) := by simp [cleanW, hj]
    rw [e]; simp [cleanW, joinE]
  | some acc =>
    have e : cleanW y = (false, acc) := by simp [cleanW, hj]
    obtain ⟨_, hasc, hlen, _⟩ := joinE_some List.Pairwise.nil (by simp) hj
    rw [e]
    cases hk : joinE [] [(false, acc)] with
    | none =>
      exfalso
      rcases joinE_none List.Pairwise.nil (by simp) hk with ⟨x, hx, h1⟩ | ⟨L, hn, hl, hm⟩
      · rw [List.mem_singleton.1 hx] at h1; cases h1
      · have := hn.length_le_of_subset (l₂ := acc) (fun f hf => by
          rcases hm f hf with q | ⟨x, hx, q⟩
          · cases q
          · rw [List.mem_singleton.1 hx] at q; exact q)
        omega
    | some r =>
      obtain ⟨_, ra, _, rm⟩ := joinE_some List.Pairwise.nil (by simp) hk
      have : r = acc := asc_ext linS _ _ ra hasc (fun f => by rw [rm f]; simp)
      simp [cleanW, hk, this]
/-- The first loop: one table and the table of all have the same. -/
structure Hd1 (i : Nat) (X : Nat → List Ep) : Prop where
  l0 : (X 0).length ≤ i
  l2 : (X 2).length ≤ i
  e1 : X 1 = []
  sz : ∀ x ∈ X 0, x.gr.size ≤ 200
  cl : ∀ x ∈ X 0, cleanW x.want = x.want
  same : ∀ q, q ∈ (X 0).map Ep.kw ↔ q ∈ (X 2).map Ep.kw
theorem Hd1.nil : Hd1 0 (fun _ => []) := ⟨Nat.le_refl _, Nat.le_refl _, rfl, (fun x hx => by cases hx), (fun x hx => by cases hx), fun q => Iff.rfl⟩
theorem Hd1.put {i : Nat} {X : Nat → List Ep} (h : Hd1 i X) (h0 : Asc ltK ((X 0).map Ep.key)) (h2 : Asc ltK ((X 2).map Ep.key)) {x y : Ep} {k : ByteArray × Int} {u : Bool × List ByteArray} (hx : x.key = k ∧ x.want = cleanW u) (hy : y.key = k ∧ y.want = cleanW u) (hs : k.1.size ≤ 200) :
    Hd1 (i + 1) (upd (upd X 0 (putE (X 0) x)) 2 (putE (upd X 0 (putE (X 0) x) 2) y)) := by
  have e1 : upd X 0 (putE (X 0) x) 2 = X 2 := upd_other _ _ (by omega)
  have e2 : upd (upd X 0 (putE (X 0) x)) 2 (putE (X 2) y) 0 = putE (X 0) x := by rw [upd_other _ _ (by omega), upd_same]
  have e3 : upd (upd X 0 (putE (X 0) x)) 2 (putE (X 2) y) 1 = X 1 := by rw [upd_other _ _ (by omega), upd_other _ _ (by omega)]
  rw [e1]
  refine ⟨?_, ?_, ?_, ?_, ?_, ?_⟩
  · rw [e2]; have := len_putE (X 0) x; have := h.l0; omega
  · rw [upd_same]; have := len_putE (X 2) y; have := h.l2; omega
  · rw [e3]; exact h.e1
  · rw [e2]
    intro z hz
    rcases (mem_putE h0 x z).1 hz with q | q
    · subst q; have e : z.gr = k.1 := congrArg Prod.fst hx.1; rw [e]; exact hs
    · exact h.sz z q.1
  · rw [e2]
    intro z hz
    rcases (mem_putE h0 x z).1 hz with q | q
    · subst q; rw [hx.2]; exact cleanW_idem _
    · exact h.cl z q.1
  · intro q
    have ek : x.kw = y.kw := by unfold Ep.kw; rw [hx.1, hy.1, hx.2, hy.2]
    rw [e2, upd_same, kw_putE h0, kw_putE h2, hx.1, hy.1, h.same q, ek]
/-- Later: what lies in the one table (A), in the hand (R), in the other table (D), and all (C). -/
structure Hd2 (A R D C : List Ep) : Prop where
  len : A.length + R.length + D.length ≤ 30
  sz : ∀ x ∈ A, x.gr.size ≤ 200
  cl : ∀ x, x ∈ A ∨ x ∈ R → cleanW x.want = x.want
  all : ∀ q, q ∈ C.map Ep.kw ↔ q ∈ A.map Ep.kw ∨ q ∈ R.map Ep.kw ∨ q ∈ D.map Ep.kw
  ad : ∀ k, k ∈ A.map Ep.key → k ∉ D.map Ep.key
  rd : ∀ k, k ∈ R.map Ep.key → k ∉ D.map Ep.key
  ar : ∀ k, k ∈ A.map Ep.key → k ∉ R.map Ep.key
  nd : (R.map Ep.key).Nodup
theorem Hd1.later {i : Nat} {X : Nat → List Ep} (h : Hd1 i X) (hi : i ≤ 30) : Hd2 (X 0) [] (X 1) (X 2) := by
  refine ⟨?_, h.sz, fun x hx => ?_, fun q => ?_, fun k _ => ?_, (fun k hk => by cases hk), (fun k _ hk => by cases hk), List.nodup_nil⟩
  · rw [h.e1]; have := h.l0; simp; omega
  · rcases hx with q | q
    · exact h.cl x q
    · cases q
  · rw [h.e1, ← h.same q]; simp
  · rw [h.e1]; simp
theorem Hd2.move {A D C : List Ep} (h : Hd2 A [] D C) (ha : Asc ltK (A.map Ep.key)) (p : Ep → Bool) : Hd2 (A.filter (fun x => !p x)) (A.filter p) D C := by
  have hnd := keys_nodup ha
  refine ⟨?_, fun x hx => h.sz x (List.mem_filter.1 hx).1, fun x hx => h.cl x (.inl ?_), fun q => ?_, fun k hk => h.ad k ?_, fun k hk => h.ad k ?_, fun k hk hk' => ?_, ?_⟩
  · have := part_len p A; have := h.len; simp at this; omega
  · rcases hx with q | q
    · exact (List.mem_filter.1 q).1
    · exact (List.mem_filter.1 q).1
  · rw [h.all q]
    simp only [List.mem_map, List.mem_filter, List.not_mem_nil, false_and, exists_false, false_or]
    constructor
    · rintro (⟨x, hx, rfl⟩ | q)
      · cases e : p x
        · exact .inl ⟨x, ⟨hx, by simp [e]⟩, rfl⟩
        · exact .inr (.inl ⟨x, ⟨hx, e⟩, rfl⟩)
      · exact .inr (.inr q)
    · rintro (⟨x, hx, rfl⟩ | ⟨x, hx, rfl⟩ | q)
      · exact .inl ⟨x, hx.1, rfl⟩
      · exact .inl ⟨x, hx.1, rfl⟩
      · exact .inr q
  · obtain ⟨x, hx, rfl⟩ := List.mem_map.1 hk; exact List.mem_map.2 ⟨x, (List.mem_filter.1 hx).1, rfl⟩
  · obtain ⟨x, hx, rfl⟩ := List.mem_map.1 hk; exact List.mem_map.2 ⟨x, (List.mem_filter.1 hx).1, rfl⟩
  · obtain ⟨x, hx, rfl⟩ := List.mem_map.1 hk
    obtain ⟨y, hy, e⟩ := List.mem_map.1 hk'
    have := key_inj hnd (List.mem_filter.1 hy).1 (List.mem_filter.1 hx).1 e
    subst this
    have h1 := (List.mem_filter.1 hy).2
    have h2 := (List.mem_filter.1 hx).2
    rw [h1] at h2; cases h2
  · exact hnd.sublist ((List.filter_sublist).map _)
theorem Hd2.put {A R D C : List Ep} {x x' : Ep} (h : Hd2 A (x :: R) D C) (hd : Asc ltK (D.map Ep.key)) (hk : x'.key = x.key) (hw : x'.want = cleanW x.want) : Hd2 A R (putE D x') C := by
  have hcl : cleanW x.want = x.want := h.cl x (.inr (by simp))
  have hkw : x'.kw = x.kw := by unfold Ep.kw; rw [hk, hw, hcl]
  have hnot : x.key ∉ D.map Ep.key := h.rd _ (by simp)
  have hkey : ∀ k, k ∈ (putE D x').map Ep.key ↔ k = x.key ∨ k ∈ D.map Ep.key := fun k => by rw [key_putE hd, hk]
  obtain ⟨n1, n2⟩ := List.nodup_cons.1 (by have := h.nd; simpa using this : (x.key :: R.map Ep.key).Nodup)
  refine ⟨?_, h.sz, fun y hy => h.cl y (hy.imp id (List.mem_cons_of_mem _)), fun q => ?_, fun k hk' q => ?_, fun k hk' q => ?_, fun k hk' q => h.ar k hk' (by simp only [List.map_cons, List.mem_cons]; exact .inr q), n2⟩
  · have := len_putE D x'; have := h.len; simp at this; omega
  · rw [h.all q, kw_putE hd, hkw, hk]
    simp only [List.map_cons, List.mem_cons]
    constructor
    · rintro (r | (r | r) | r)
      · exact .inl r
      · exact .inr (.inr (.inl r))
      · exact .inr (.inl r)
      · refine .inr (.inr (.inr ⟨r, fun e => hnot ?_⟩))
        obtain ⟨z, hz, rfl⟩ := List.mem_map.1 r
        rw [← e]
        exact List.mem_map.2 ⟨z, hz, rfl⟩
    · rintro (r | r | r | ⟨r, _⟩)
      · exact .inl r
      · exact .inr (.inl (.inr r))
      · exact .inr (.inl (.inl r))
      · exact .inr (.inr r)
  · rcases (hkey k).1 q with r | r
    · subst r; exact h.ar _ hk' (by simp)
    · exact h.ad k hk' r
  · rcases (hkey k).1 q with r | r
    · subst r; exact n1 hk'
    · exact h.rd k (by simp only [List.map_cons, List.mem_cons]; exact .inr hk') r
/-- At last the other table has all. -/
theorem kw_ext : ∀ (A B : List Ep), Asc ltK (A.map Ep.key) → Asc ltK (B.map Ep.key) → (∀ q, q ∈ A.map Ep.kw ↔ q ∈ B.map Ep.kw) → A.map Ep.kw = B.map Ep.kw
  | [], [], _, _, _ => rfl
  | [], b :: B, _, _, h => by have := (h b.kw).2 (by simp); cases this
  | a :: A, [], _, _, h => by have := (h a.kw).1 (by simp); cases this
  | a :: A, b :: B, ha, hb, h => by
    have ha' := List.pairwise_cons.1 (show List.Pairwise _ (a.key :: A.map Ep.key) from ha)
    have hb' := List.pairwise_cons.1 (show List.Pairwise _ (b.key :: B.map Ep.key) from hb)
    have key_of : ∀ {q : (ByteArray × Int) × (Bool × List ByteArray)} {Z : List Ep}, q ∈ Z.map Ep.kw → q.1 ∈ Z.map Ep.key := fun hq => by
      obtain ⟨z, hz, rfl⟩ := List.mem_map.1 hq; exact List.mem_map.2 ⟨z, hz, rfl⟩
    have hA : ∀ q, q ∈ A.map Ep.kw → q.1 ≠ a.key := fun q hq e => by have := ha'.1 q.1 (key_of hq); rw [e, linK.irr] at this; cases this
    have hB : ∀ q, q ∈ B.map Ep.kw → q.1 ≠ b.key := fun q hq e => by have := hb'.1 q.1 (key_of hq); rw [e, linK.irr] at this; cases this
    have hab : a.kw = b.kw := by
      rcases List.mem_cons.1 (show a.kw ∈ b.kw :: B.map Ep.kw from (h a.kw).1 (by simp)) with q | q
      · exact q
      · rcases List.mem_cons.1 (show b.kw ∈ a.kw :: A.map Ep.kw from (h b.kw).2 (by simp)) with q' | q'
        · exact q'.symm
        · have h1 := linK.trans _ _ _ (hb'.1 a.key (key_of q)) (ha'.1 b.key (key_of q'))
          rw [linK.irr] at h1; cases h1
    have hk : a.key = b.key := congrArg Prod.fst hab
    rw [List.map_cons, List.map_cons, hab, kw_ext A B ha'.2 hb'.2 (fun q => ⟨fun hq => by
      rcases List.mem_cons.1 (show q ∈ b.kw :: B.map Ep.kw from (h q).1 (List.mem_cons_of_mem _ hq)) with r | r
      · exact absurd (by rw [r]; exact hk.symm) (hA q hq)
      · exact r, fun hq => by
      rcases List.mem_cons.1 (show q ∈ a.kw :: A.map Ep.kw from (h q).2 (List.mem_cons_of_mem _ hq)) with r | r
      · exact absurd (by rw [r]; exact hk) (hB q hq)
      · exact r⟩)]
theorem Hd2.fin {D C : List Ep} (h : Hd2 [] [] D C) (hd : Asc ltK (D.map Ep.key)) (hc : Asc ltK (C.map Ep.key)) : D.map Ep.kw = C.map Ep.kw :=
  kw_ext D C hd hc (fun q => by rw [h.all q]; simp)
theorem want_kw (X : List Ep) (g : ByteArray) : (X.filter (ofG g)).map Ep.want = ((X.map Ep.kw).filter (fun q => q.1.1.toList == g.toList)).map Prod.snd := by
  rw [List.filter_map, List.map_map]
  rfl
theorem want_core {Y Z : List Ep} (h : Y.map Ep.core = Z.map Ep.core) : Y.map Ep.want = Z.map Ep.want := by
  have := congrArg (List.map (fun c : Core => (c.any, c.fs))) h
  rw [List.map_map, List.map_map] at this
  exact this
/-- What several want, as one: a list and whether it is all. -/
def joinR (W : List (Bool × List ByteArray)) : Bool × List ByteArray := match joinE [] W with
  | none => (true, [])
  | some acc => (false, acc)
theorem join_r (a : Option Addr) (len c : Nat) (X : List Ep) (W : List (Bool × List ByteArray)) (w : World) (h : EntIn w a len X) (hW : X.map Ep.want = W) :
    Calls Try.prog 13 #[.slice a len c] w fun e w' => ∃ a' c', e = .returned (.tuple #[.slice a' (joinR W).2.length c', .bool (joinR W).1]) ∧ StrIn w' a' (joinR W).2.length (joinR W).2 ∧ Below w.heap.size w w' := by
  refine (join_any a len c X w h).mono ?_
  rw [hW]
  rintro e w' (⟨hj, rfl, hb⟩ | ⟨acc, v, hj, rfl, hJ⟩)
  · have e1 : joinR W = (true, []) := by simp [joinR, hj]
    rw [e1]
    exact ⟨none, 0, rfl, ⟨rfl, .inl rfl⟩, hb⟩
  · have e1 : joinR W = (false, acc) := by simp [joinR, hj]
    rw [e1]
    obtain ⟨a3, c3, hv3⟩ := hJ.shape
    subst hv3
    exact ⟨a3, c3, rfl, strIn_own hJ.row rfl, hJ.bel⟩
end Go.Proofs.Ytffdknjocmfmfaa
