/- Several tables side by side: each writes its own box and row alone. -/
import Derived.Test.YtffdknjocmfmfaaTbAwake
import Derived.Test.YtffdknjocmfmfaaTbLast
import Derived.Test.YtffdknjocmfmfaaTbMove
namespace Go.Proofs.Ytffdknjocmfmfaa
open Go.ChangeShapes Go.WideShapes Go.ChangeAt Go.RowKit
set_option linter.unusedVariables false

/-- The blocks that a row of entries reads. -/
def rdE (v : Value) (X : List Ep) (b : Nat) : Prop := v.ownBlock = some b ∨ ∃ x ∈ X, ∃ a, x.a = some a ∧ a.block = b
/-- .. and a table. -/
def rdT (r : Nat) (v : Value) (X : List Ep) (b : Nat) : Prop := b = r ∨ rdE v X b
/-- A table writes none of these. -/
def Clr (r : Nat) (v : Value) (S : Nat → Prop) : Prop := ∀ b, S b → b ≠ r ∧ v.ownBlock ≠ some b
theorem Tb.rd_lt {w : World} {B r : Nat} {v : Value} {X : List Ep} (h : Tb w B r v X) : ∀ b, rdT r v X b → b < w.heap.size := by
  rintro b (rfl | hb | ⟨x, hx, a, ha, rfl⟩)
  · exact h.lt
  · exact (h.row.lt b hb).2
  · exact ((h.fil x hx).cl a ha).1
theorem Tb.kt {w w' : World} {B r r1 : Nat} {v v1 v1' : Value} {X : List Ep} (h : Tb w B r v X) (hk : KT w w' r1 v1 v1') (hc : Clr r1 v1 (rdT r v X)) : Tb w' B r v X := by
  have hb : ∀ b, rdT r v X b → w'.heap[b]? = w.heap[b]? := fun b hb => hk.block b (h.rd_lt b hb) (hc b hb).1 (hc b hb).2
  exact ⟨(hb r (.inl rfl)).trans h.box, h.lo, row_atJ h.row (fun b hv => hb b (.inr (.inl hv))), h.ne, fun x hx => (h.fil x hx).at hk.size (fun a ha => hb _ (.inr (.inr ⟨x, hx, a, ha, rfl⟩))) (fun a ha => ((h.fil x hx).cl a ha).2.2), h.asc, h.le⟩
theorem Clr.kt {w w' : World} {r : Nat} {v v' : Value} {S : Nat → Prop} (h : Clr r v S) (hk : KT w w' r v v') (hS : ∀ b, S b → b < w.heap.size) : Clr r v' S := fun b hb => ⟨(h b hb).1, fun e => by
  rcases hk.own b e with q | q
  · exact (h b hb).2 q
  · have := hS b hb; omega⟩
theorem Clr.grow {w : World} {B r : Nat} {v : Value} {X : List Ep} {S S' : Nat → Prop} (h : Clr r v S) (ht : Tb w B r v X) (hS : ∀ b, S' b → S b ∨ w.heap.size ≤ b) : Clr r v S' := fun b hb => by
  rcases hS b hb with q | q
  · exact h b q
  · have h1 := ht.lt
    refine ⟨by omega, fun e => ?_⟩
    have := (ht.row.lt b e).2
    omega
/-- What is read elsewhere stays. -/
structure Frm (S : Nat → Prop) (w w' : World) : Prop where
  size : w.heap.size ≤ w'.heap.size
  block : ∀ b, S b → w'.heap[b]? = w.heap[b]?
theorem Frm.trans {S : Nat → Prop} {a b c : World} (h : Frm S a b) (h' : Frm S b c) : Frm S a c := ⟨Nat.le_trans h.size h'.size, fun k hk => (h'.block k hk).trans (h.block k hk)⟩
theorem Frm.sub {S S' : Nat → Prop} {a b : World} (h : Frm S a b) (hs : ∀ k, S' k → S k) : Frm S' a b := ⟨h.size, fun k hk => h.block k (hs k hk)⟩
theorem Frm.ofBelow {S : Nat → Prop} {a b : World} (h : Below a.heap.size a b) (hlt : ∀ k, S k → k < a.heap.size) : Frm S a b := ⟨h.size, fun k hk => h.block k (hlt k hk)⟩
theorem EntIn.frm {w w' : World} {a : Option Addr} {n c : Nat} {M : List Ep} {S : Nat → Prop} (h : EntIn w a n M) (hf : Frm S w w') (hs : ∀ b, rdE (.slice a n c) M b → S b) : EntIn w' a n M := by
  refine ⟨h.1, h.2.1, ?_⟩
  rcases h.2.2 with h0 | ⟨b, o, ha, hlt, hc⟩
  · exact .inl h0
  · have hbb : w'.heap[b]? = w.heap[b]? := hf.block b (hs b (.inl (by rw [ha]; rfl)))
    refine .inr ⟨b, o, ha, Nat.lt_of_lt_of_le hlt hf.size, fun i hi => ⟨⟨?_, (hc i hi).1.2⟩, fun j hj => (World.cell?_of_block (a := ⟨b, o + i * 5 + j, none⟩) hbb).trans ((hc i hi).2 j hj)⟩⟩
    exact (hc i hi).1.1.at hf.size (fun q hq => hf.block _ (hs _ (.inr ⟨M.getD i ep0, getD_memL ep0 M i (by rw [h.1]; exact hi), q, hq, rfl⟩)))
theorem ent_row {w : World} {B : Nat} {a : Option Addr} {c : Nat} {X : List Ep} (hrow : w.ownsRow B 32 5 (.slice a X.length c) X.length (X.flatMap Ep.cells)) (hf : ∀ x ∈ X, StrIn w x.a x.ln x.fs ∧ x.ln ≤ 100000) (hl : X.length ≤ 100000) : EntIn w a X.length X := by
  refine ⟨rfl, hl, ?_⟩
  rcases hrow.2 with ⟨_, h0⟩ | ⟨g, cap, cur, hv, _, hg, _⟩
  · exact .inl h0
  · have hc := hrow.cells (g := g) (by rw [hv]; rfl)
    simp only [Value.slice.injEq] at hv
    refine .inr ⟨g, 0, hv.1, lt_blk hg, fun i hi => ⟨hf _ (getD_memL ep0 X i hi), fun j hj => ?_⟩⟩
    have hx := flat_get Ep.cells 5 Ep.cells_len ep0 X i j hi hj
    have hj' : j < (X.getD i ep0).cells.length := hj
    have e := hc (i * 5 + j) ((X.getD i ep0).cells[j]) (by rw [hx, List.getElem?_eq_getElem hj'])
    rw [Addr.add_lit] at e
    rw [Nat.add_assoc, e, List.getElem?_eq_getElem hj']

def upd {α : Type} (X : Nat → α) (i : Nat) (Y : α) : Nat → α := fun k => if k = i then Y else X k
theorem upd_same {α : Type} (X : Nat → α) (i : Nat) (Y : α) : upd X i Y i = Y := by simp [upd]
theorem upd_other {α : Type} (X : Nat → α) {i k : Nat} (Y : α) (h : k ≠ i) : upd X i Y k = X k := by simp [upd, h]
/-- n tables whose boxes lie from B on; S: what is read beside them; F: what they keep off. -/
structure TabF (B : Nat) (w0 w : World) (n : Nat) (X : Nat → List Ep) (S F : Nat → Prop) : Prop where
  tab : ∃ V : Nat → Value, (∀ i, i < n → Tb w B (B + i) (V i) (X i)) ∧ (∀ i j, i < n → j < n → i ≠ j → Clr (B + i) (V i) (rdT (B + j) (V j) (X j))) ∧ (∀ i, i < n → Clr (B + i) (V i) S) ∧ ∀ i, i < n → ∀ b, rdT (B + i) (V i) (X i) b → ¬ F b
  lt : ∀ b, S b → b < w.heap.size
  ltF : ∀ b, F b → b < w.heap.size
  bel : Below B w0 w
  size : B ≤ w.heap.size
abbrev Tabs (B : Nat) (w0 w : World) (n : Nat) (X : Nat → List Ep) (S : Nat → Prop) : Prop := TabF B w0 w n X S (fun _ => False)
theorem TabF.own {B : Nat} {w0 w : World} {n : Nat} {X : Nat → List Ep} {S F : Nat → Prop} (h : TabF B w0 w n X S F) {i : Nat} (hi : i < n) : OwnT B w0 w (B + i) (X i) := by
  obtain ⟨V, hT, _⟩ := h.tab
  exact ⟨⟨V i, hT i hi⟩, h.bel, h.size⟩
theorem TabF.asc {B : Nat} {w0 w : World} {n : Nat} {X : Nat → List Ep} {S F : Nat → Prop} (h : TabF B w0 w n X S F) {i : Nat} (hi : i < n) : Asc ltK ((X i).map Ep.key) := by
  obtain ⟨V, hT, _⟩ := h.tab
  exact (hT i hi).asc
theorem TabF.below {B : Nat} {w0 w w' : World} {n : Nat} {X : Nat → List Ep} {S F : Nat → Prop} (h : TabF B w0 w n X S F) (hb : Below w.heap.size w w') : TabF B w0 w' n X S F := by
  obtain ⟨V, hT, hC, hS, hF⟩ := h.tab
  exact ⟨⟨V, fun i hi => (hT i hi).below hb, hC, hS, hF⟩, fun b q => Nat.lt_of_lt_of_le (h.lt b q) hb.size, fun b q => Nat.lt_of_lt_of_le (h.ltF b q) hb.size, h.bel.trans (hb.mono h.size), Nat.le_trans h.size hb.size⟩
/-- What they keep off may turn. -/
theorem TabF.off {B : Nat} {w0 w w' : World} {n : Nat} {X : Nat → List Ep} {S F : Nat → Prop} (h : TabF B w0 w n X S F) (hb : Below B w w') (hk : ∀ b, b < w.heap.size → ¬ F b → w'.heap[b]? = w.heap[b]?) : TabF B w0 w' n X S F := by
  obtain ⟨V, hT, hC, hS, hF⟩ := h.tab
  refine ⟨⟨V, fun i hi => ?_, hC, hS, hF⟩, fun b q => Nat.lt_of_lt_of_le (h.lt b q) hb.size, fun b q => Nat.lt_of_lt_of_le (h.ltF b q) hb.size, h.bel.trans hb, Nat.le_trans h.size hb.size⟩
  have ht := hT i hi
  have hbk : ∀ b, rdT (B + i) (V i) (X i) b → w'.heap[b]? = w.heap[b]? := fun b q => hk b (ht.rd_lt b q) (hF i hi b q)
  exact ⟨(hbk _ (.inl rfl)).trans ht.box, ht.lo, row_atJ ht.row (fun b hv => hbk b (.inr (.inl hv))), ht.ne, fun x hx => (ht.fil x hx).at hb.size (fun a ha => hbk _ (.inr (.inr ⟨x, hx, a, ha, rfl⟩))) (fun a ha => ((ht.fil x hx).cl a ha).2.2), ht.asc, ht.le⟩
/-- .. and lie elsewhere. -/
theorem TabF.turn {B : Nat} {w0 w w' : World} {n : Nat} {X : Nat → List Ep} {S F F' T : Nat → Prop} (h : TabF B w0 w n X S F) (hb : Below B w w') (hk : ∀ b, b < w.heap.size → ¬ F b → w'.heap[b]? = w.heap[b]?) (hsub : ∀ b, F b → S b) (hF' : ∀ b, F' b → F b ∨ w.heap.size ≤ b) (hl : ∀ b, F' b → b < w'.heap.size) (hTS : ∀ b, T b → S b) : TabF B w0 w' n X (fun k => F' k ∨ T k) F' := by
  obtain ⟨V, hT, hC, hS, hF⟩ := h.tab
  refine ⟨⟨V, fun i hi => ?_, hC, fun i hi b q => ?_, fun i hi b q q' => ?_⟩, fun b q => q.elim (hl b) (fun r => Nat.lt_of_lt_of_le (h.lt b (hTS b r)) hb.size), hl, h.bel.trans hb, Nat.le_trans h.size hb.size⟩
  · have ht := hT i hi
    have hbk : ∀ b, rdT (B + i) (V i) (X i) b → w'.heap[b]? = w.heap[b]? := fun b q => hk b (ht.rd_lt b q) (hF i hi b q)
    exact ⟨(hbk _ (.inl rfl)).trans ht.box, ht.lo, row_atJ ht.row (fun b hv => hbk b (.inr (.inl hv))), ht.ne, fun x hx => (ht.fil x hx).at hb.size (fun a ha => hbk _ (.inr (.inr ⟨x, hx, a, ha, rfl⟩))) (fun a ha => ((ht.fil x hx).cl a ha).2.2), ht.asc, ht.le⟩
  · rcases q with q | q
    · exact (hS i hi).grow (hT i hi) (S' := F') (fun b q => (hF' b q).imp (hsub b) id) b q
    · exact hS i hi b (hTS b q)
  · rcases hF' b q' with r | r
    · exact hF i hi b q r
    · have := (hT i hi).rd_lt b q; omega
/-- Something new is read beside them. -/
theorem TabF.addS {B : Nat} {w0 w w' : World} {n : Nat} {X : Nat → List Ep} {S F T : Nat → Prop} (h : TabF B w0 w n X S F) (hb : Below w.heap.size w w') (hT : ∀ b, T b → w.heap.size ≤ b ∧ b < w'.heap.size) : TabF B w0 w' n X (fun k => S k ∨ T k) F := by
  obtain ⟨V, h1, h2, h3, h4⟩ := (h.below hb).tab
  obtain ⟨U, g1, g2, g3, g4⟩ := h.tab
  refine ⟨⟨U, fun i hi => (g1 i hi).below hb, g2, fun i hi b q => ?_, g4⟩, fun b q => q.elim (fun r => Nat.lt_of_lt_of_le (h.lt b r) hb.size) (fun r => (hT b r).2), fun b q => Nat.lt_of_lt_of_le (h.ltF b q) hb.size, h.bel.trans (hb.mono h.size), Nat.le_trans h.size hb.size⟩
  rcases q with q | q
  · exact g3 i hi b q
  · have l1 := (g1 i hi).lt
    have l2 := (hT b q).1
    refine ⟨by omega, fun e => ?_⟩
    have := ((g1 i hi).row.lt b e).2
    omega
/-- One table turns, the others stay. -/
theorem TabF.op {B : Nat} {w0 w w' : World} {n : Nat} {X : Nat → List Ep} {V : Nat → Value} {S' F : Nat → Prop} (hT : ∀ i, i < n → Tb w B (B + i) (V i) (X i)) (hC : ∀ i j, i < n → j < n → i ≠ j → Clr (B + i) (V i) (rdT (B + j) (V j) (X j)))
    (hF : ∀ i, i < n → ∀ b, rdT (B + i) (V i) (X i) b → ¬ F b) (hltF : ∀ b, F b → b < w.heap.size) (hbel : Below B w0 w) (hsz : B ≤ w.heap.size) {i : Nat} (hi : i < n) {v' : Value} {Y : List Ep} (ht : Tb w' B (B + i) v' Y) (hk : KT w w' (B + i) (V i) v') (hrd : ∀ b, rdT (B + i) v' Y b → rdT (B + i) (V i) (X i) b ∨ w.heap.size ≤ b)
    (hS1 : Clr (B + i) v' S') (hS2 : ∀ j, j < n → j ≠ i → Clr (B + j) (V j) S') (hlt : ∀ b, S' b → b < w'.heap.size) : TabF B w0 w' n (upd X i Y) S' F := by
  refine ⟨⟨upd V i v', fun j hj => ?_, fun j k hj hk' hne => ?_, fun j hj => ?_, fun j hj => ?_⟩, hlt, fun b q => Nat.lt_of_lt_of_le (hltF b q) hk.size, hbel.trans (hk.below (hT i hi).lo (hT i hi).vlo hsz), Nat.le_trans hsz hk.size⟩
  · by_cases e : j = i
    · subst e; rw [upd_same, upd_same]; exact ht
    · rw [upd_other _ _ e, upd_other _ _ e]; exact (hT j hj).kt hk (hC i j hi hj (Ne.symm e))
  · by_cases e : j = i
    · subst e
      rw [upd_same, upd_other _ _ (Ne.symm hne), upd_other _ _ (Ne.symm hne)]
      exact (hC j k hj hk' hne).kt hk (hT k hk').rd_lt
    · rw [upd_other _ _ e]
      by_cases e2 : k = i
      · subst e2; rw [upd_same, upd_same]; exact (hC j k hj hk' hne).grow (hT j hj) hrd
      · rw [upd_other _ _ e2, upd_other _ _ e2]; exact hC j k hj hk' hne
  · by_cases e : j = i
    · subst e; rw [upd_same]; exact hS1
    · rw [upd_other _ _ e]; exact hS2 j hj e
  · by_cases e : j = i
    · subst e; rw [upd_same, upd_same]
      intro b hb q
      rcases hrd b hb with h1 | h1
      · exact hF j hj b h1 q
      · have := hltF b q; omega
    · rw [upd_other _ _ e, upd_other _ _ e]; exact hF j hj
theorem KT.frm {w w' : World} {r : Nat} {v v' : Value} {S : Nat → Prop} (hk : KT w w' r v v') (hc : Clr r v S) (hlt : ∀ b, S b → b < w.heap.size) : Frm S w w' := ⟨hk.size, fun b hb => hk.block b (hlt b hb) (hc b hb).1 (hc b hb).2⟩
theorem TabF.put {B : Nat} {w0 w : World} {n : Nat} {X : Nat → List Ep} {S F : Nat → Prop} (h : TabF B w0 w n X S F) (i : Nat) (hi : i < n) (r : Nat) (hr : r = B + i) (g : ByteArray) (c : Int) (fa : Option Addr) (fl fc : Nat) (any : Bool) (till : Int) (fs : List ByteArray) (hf : StrIn w fa fl fs) (hfl : fl ≤ 100000) (hroom : (X i).length < 400) :
    Calls Try.prog 5 #[.pointer (some ⟨r, 0, none⟩), .agg #[.string g, .int .i64 c, .slice fa fl fc, .bool any, .int .i64 till]] w fun e w' =>
      e = .returned .nilIface ∧ ∃ x', (x'.key = (g, c) ∧ x'.till = till ∧ x'.want = cleanW (any, fs)) ∧ TabF B w0 w' n (upd X i (putE (X i) x')) S F ∧ Frm S w w' := by
  subst hr
  obtain ⟨V, hT, hC, hS, hF⟩ := h.tab
  refine (put_any B (B + i) (V i) (X i) g c fa fl fc any till fs w (hT i hi) hf hfl h.size (.inr hroom)).mono ?_
  rintro e w' ⟨rfl, v', x', hx, hT', hK, hnew⟩
  refine ⟨rfl, x', hx, TabF.op hT hC hF h.ltF h.bel h.size hi hT' hK ?_ ((hS i hi).kt hK h.lt) (fun j hj _ => hS j hj) (fun b hb => Nat.lt_of_lt_of_le (h.lt b hb) hK.size), hK.frm (hS i hi) h.lt⟩
  rintro b (rfl | hb | ⟨x, hx, a, ha, rfl⟩)
  · exact .inl (.inl rfl)
  · rcases hK.own b hb with q | q
    · exact .inl (.inr (.inl q))
    · exact .inr q
  · rcases (mem_putE (hT i hi).asc x' x).1 hx with q | q
    · subst q; exact .inr (hnew a ha)
    · exact .inl (.inr (.inr ⟨x, q.1, a, ha, rfl⟩))
theorem TabF.move {B : Nat} {w0 w : World} {n : Nat} {X : Nat → List Ep} {S F : Nat → Prop} (h : TabF B w0 w n X S F) (i : Nat) (hi : i < n) (r : Nat) (hr : r = B + i) (a b : Int) (hx : ∀ x ∈ X i, x.gr.size ≤ 200) :
    Calls Try.prog 8 #[.pointer (some ⟨r, 0, none⟩), .int .u64 a, .int .u64 b] w fun e w' => ∃ a' c, e = .returned (.slice a' ((X i).filter (goesB a b)).length c) ∧
      TabF B w0 w' n (upd X i ((X i).filter (fun x => !goesB a b x))) (fun k => S k ∨ rdE (.slice a' ((X i).filter (goesB a b)).length c) ((X i).filter (goesB a b)) k) F ∧ EntIn w' a' ((X i).filter (goesB a b)).length ((X i).filter (goesB a b)) ∧ Frm S w w' ∧ ∀ k, rdE (.slice a' ((X i).filter (goesB a b)).length c) ((X i).filter (goesB a b)) k → ¬ F k := by
  subst hr
  obtain ⟨V, hT, hC, hS, hF⟩ := h.tab
  have ht := hT i hi
  refine (move_any B (B + i) (V i) (X i) a b w ht h.size hx).mono ?_
  rintro e w' ⟨a', c, v2, rfl, hT', hK, hrow, hap⟩
  have hmem : ∀ x, x ∈ (X i).filter (goesB a b) → x ∈ X i := fun x hx => (List.mem_filter.1 hx).1
  have hle : ((X i).filter (goesB a b)).length ≤ 400 := Nat.le_trans (List.length_filter_le _ _) ht.le
  have hnewl : ∀ k, (Value.slice a' ((X i).filter (goesB a b)).length c).ownBlock = some k → w.heap.size ≤ k ∧ k < w'.heap.size := fun k hk => by
    have := hrow.lt k hk; omega
  have hmv : ∀ k, rdE (.slice a' ((X i).filter (goesB a b)).length c) ((X i).filter (goesB a b)) k → rdT (B + i) (V i) (X i) k ∨ w.heap.size ≤ k := by
    rintro k (hk | ⟨x, hx, q, hq, rfl⟩)
    · exact .inr (hnewl k hk).1
    · exact .inl (.inr (.inr ⟨x, hmem x hx, q, hq, rfl⟩))
  refine ⟨a', c, rfl, TabF.op hT hC hF h.ltF h.bel h.size hi hT' hK ?_ ?_ ?_ ?_, ?_, hK.frm (hS i hi) h.lt, fun k hk q => by
    rcases hmv k hk with r | r
    · exact hF i hi k r q
    · have := h.ltF k q; omega⟩
  · rintro k (rfl | hk | ⟨x, hx, q, hq, rfl⟩)
    · exact .inl (.inl rfl)
    · rcases hK.own k hk with q | q
      · exact .inl (.inr (.inl q))
      · exact .inr q
    · exact .inl (.inr (.inr ⟨x, (List.mem_filter.1 hx).1, q, hq, rfl⟩))
  · rintro k (hk | hk | ⟨x, hx, q, hq, rfl⟩)
    · exact (hS i hi).kt hK h.lt k hk
    · refine ⟨?_, hap k hk⟩
      have h1 := (hnewl k hk).1
      have h2 := ht.lt
      omega
    · have h1 := (ht.fil x (hmem x hx)).cl q hq
      refine ⟨h1.2.1, fun e => ?_⟩
      rcases hK.own _ e with q' | q'
      · exact h1.2.2 q'
      · have := h1.1; omega
  · intro j hj hne
    refine Clr.grow (S := fun k => S k ∨ rdT (B + i) (V i) (X i) k) ?_ (hT j hj) ?_
    · rintro k (hk | hk)
      · exact hS j hj k hk
      · exact hC j i hj hi hne k hk
    · rintro k (hk | hk)
      · exact .inl (.inl hk)
      · rcases hmv k hk with q | q
        · exact .inl (.inr q)
        · exact .inr q
  · rintro k (hk | hk)
    · exact Nat.lt_of_lt_of_le (h.lt k hk) hK.size
    · rcases hk with hk | ⟨x, hx, q, hq, rfl⟩
      · exact (hnewl k hk).2
      · exact Nat.lt_of_lt_of_le ((ht.fil x (hmem x hx)).cl q hq).1 hK.size
  · refine ent_row hrow (fun x hx => ?_) (by omega)
    have hfx := ht.fil x (hmem x hx)
    exact ⟨hfx.str.at hK.size (fun q hq => hK.block _ (hfx.cl q hq).1 (hfx.cl q hq).2.1 (hfx.cl q hq).2.2), by have := hfx.le; omega⟩
/-- Less is kept clear of. -/
theorem TabF.sub {B : Nat} {w0 w : World} {n : Nat} {X : Nat → List Ep} {S S' F : Nat → Prop} (h : TabF B w0 w n X S F) (hs : ∀ k, S' k → S k) : TabF B w0 w n X S' F := by
  obtain ⟨V, hT, hC, hS, hF⟩ := h.tab
  exact ⟨⟨V, hT, hC, fun i hi k hk => hS i hi k (hs k hk), hF⟩, fun k hk => h.lt k (hs k hk), h.ltF, h.bel, h.size⟩
/-- Tables at the start: boxes one behind the other. -/
theorem TabF.start {B : Nat} {w w' : World} (n : Nat) (F : Nat → Prop) (hB : B ≤ w'.heap.size) (hb : Below B w w') (hbox : ∀ i, i < n → w'.heap[B + i]? = some (.cells #[.slice none 0 0] 26 (0, 0))) (hF : ∀ i, i < n → ¬ F (B + i)) (hl : ∀ b, F b → b < w'.heap.size) : TabF B w w' n (fun _ => []) F F := by
  refine ⟨⟨fun _ => .slice none 0 0, fun i hi => ⟨hbox i hi, Nat.le_add_right _ _, World.ownsRow_nil _ _ _ _, by simp [Value.ownBlock], (fun x hx => by cases hx), List.Pairwise.nil, by simp⟩, fun i j hi hj hne k hk => ?_, fun i hi k hk => ⟨fun e => hF i hi (by rw [← e]; exact hk), by simp [Value.ownBlock]⟩, fun i hi k hk q => ?_⟩, hl, hl, hb, hB⟩
  · rcases hk with rfl | hk | ⟨x, hx, _⟩
    · exact ⟨by omega, by simp [Value.ownBlock]⟩
    · simp [Value.ownBlock] at hk
    · cases hx
  · rcases hk with rfl | hk | ⟨x, hx, _⟩
    · exact hF i hi q
    · simp [Value.ownBlock] at hk
    · cases hx
theorem Tabs.start {w w' : World} (n : Nat) (hb : Below w.heap.size w w') (hbox : ∀ i, i < n → w'.heap[w.heap.size + i]? = some (.cells #[.slice none 0 0] 26 (0, 0))) : Tabs w.heap.size w w' n (fun _ => []) (fun _ => False) :=
  TabF.start n (fun _ => False) hb.size hb hbox (fun _ _ q => q) (fun _ q => q.elim)
end Go.Proofs.Ytffdknjocmfmfaa
