/- What msg.Read does. -/
import Derived.Test.YtakfinccoffplaaDoorMsRd3
namespace Go.Proofs.YtakfinccoffplaaDoor
open Go.ChangeShapes Go.WideShapes Go.ChangeAt Go.RowKit
set_option linter.unusedVariables false

/-- An error of this code, or none. -/
def ErrIs (w : World) (v : Value) (c : Nat) : Prop := (c = 0 ∧ v = .nilIface) ∨ (c ≠ 0 ∧ v = .iface 40 (.int .i64 c)) ∨ (c ≠ 0 ∧ IsFault w v c)
theorem IsFault.mv {w w' : World} {c p : Nat} {g : Nat} (h : IsFault w (.iface 124 (.pointer (some ⟨g, 0, none⟩))) c) (hb : ∀ k, k ≠ p → w'.heap[k]? = w.heap[k]?) (hg : g ≠ p) : IsFault w' (.iface 124 (.pointer (some ⟨g, 0, none⟩))) c := by
  obtain ⟨g', at', e, hh⟩ := h
  simp only [Value.iface.injEq, Value.pointer.injEq, Option.some.injEq, Addr.mk.injEq, true_and, and_true] at e
  subst e
  exact ⟨g, at', rfl, (hb g hg).trans hh⟩
theorem InRow.mv {α : Type} {enc : α → List Value} {ok : α → Prop} {d : α} {k p : Nat} {w w' : World} {a : Option Addr} {n : Nat} {l : List α} (h : InRow k enc ok d w a n l ∧ ∀ x, a = some x → x.block ≠ p) (hs : w.heap.size ≤ w'.heap.size) (hb : ∀ k, k ≠ p → w'.heap[k]? = w.heap[k]?) : InRow k enc ok d w' a n l := by
  refine ⟨h.1.1, h.1.2.1, ?_⟩
  rcases h.1.2.2 with h0 | ⟨b, q, ha, hlt, hc⟩
  · exact .inl h0
  · refine .inr ⟨b, q, ha, Nat.lt_of_lt_of_le hlt hs, fun i hi => ⟨(hc i hi).1, fun j hj => ?_⟩⟩
    rw [World.cell?_of_block (show w'.heap[b]? = w.heap[b]? from hb b (h.2 _ ha))]
    exact (hc i hi).2 j hj
theorem below_sets {w w6 w' : World} (h : Below w.heap.size w w6) (hs : w6.heap.size ≤ w'.heap.size) (h1 : w'.os = w6.os) (h2 : w'.tape = w6.tape) (h3 : w'.output = w6.output) (hb : ∀ k, k ≠ w.heap.size → w'.heap[k]? = w6.heap[k]?) : Below w.heap.size w w' :=
  ⟨h1.trans h.os, h2.trans h.tape, h3.trans h.output, Nat.le_trans h.size hs, fun k hk => (hb k (by omega)).trans (h.block k hk)⟩
theorem box_set {w : World} {p i : Nat} {cs : Array Value} {t : TypeId} {fr : Nat × Nat} (h : w.heap[p]? = some (.cells cs t fr)) (v : Value) : (w.setCell ⟨p, i, none⟩ v).heap[p]? = some (.cells (cs.setIfInBounds i v) t fr) := by
  simp only [World.setCell, Array.getElem?_modify]; rw [h]; simp
/-- Nine cells of a block are written. -/
def sets9 (w : World) (p : Nat) (v0 v1 v2 v3 v4 v5 v6 v7 v8 : Value) : World := ((((((((w.setCell ⟨p, 0, none⟩ v0).setCell ⟨p, 1, none⟩ v1).setCell ⟨p, 2, none⟩ v2).setCell ⟨p, 3, none⟩ v3).setCell ⟨p, 4, none⟩ v4).setCell ⟨p, 5, none⟩ v5).setCell ⟨p, 6, none⟩ v6).setCell ⟨p, 7, none⟩ v7).setCell ⟨p, 8, none⟩ v8
section
variable {w : World} {p : Nat} {v0 v1 v2 v3 v4 v5 v6 v7 v8 c0 c1 c2 c3 c4 c5 c6 c7 c8 : Value} {t : TypeId}
theorem sets9_box (h : w.heap[p]? = some (.cells #[c0, c1, c2, c3, c4, c5, c6, c7, c8] t (0, 0))) : (sets9 w p v0 v1 v2 v3 v4 v5 v6 v7 v8).heap[p]? = some (.cells #[v0, v1, v2, v3, v4, v5, v6, v7, v8] t (0, 0)) := by
  unfold sets9
  have h0 : (w.setCell ⟨p, 0, none⟩ v0).heap[p]? = some (.cells #[v0, c1, c2, c3, c4, c5, c6, c7, c8] t (0, 0)) := by simpa using box_set (i := 0) h v0
  have h1 : ((w.setCell ⟨p, 0, none⟩ v0).setCell ⟨p, 1, none⟩ v1).heap[p]? = some (.cells #[v0, v1, c2, c3, c4, c5, c6, c7, c8] t (0, 0)) := by simpa using box_set (i := 1) h0 v1
  have h2 : (((w.setCell ⟨p, 0, none⟩ v0).setCell ⟨p, 1, none⟩ v1).setCell ⟨p, 2, none⟩ v2).heap[p]? = some (.cells #[v0, v1, v2, c3, c4, c5, c6, c7, c8] t (0, 0)) := by simpa using box_set (i := 2) h1 v2
  have h3 : ((((w.setCell ⟨p, 0, none⟩ v0).setCell ⟨p, 1, none⟩ v1).setCell ⟨p, 2, none⟩ v2).setCell ⟨p, 3, none⟩ v3).heap[p]? = some (.cells #[v0, v1, v2, v3, c4, c5, c6, c7, c8] t (0, 0)) := by simpa using box_set (i := 3) h2 v3
  have h4 : (((((w.setCell ⟨p, 0, none⟩ v0).setCell ⟨p, 1, none⟩ v1).setCell ⟨p, 2, none⟩ v2).setCell ⟨p, 3, none⟩ v3).setCell ⟨p, 4, none⟩ v4).heap[p]? = some (.cells #[v0, v1, v2, v3, v4, c5, c6, c7, c8] t (0, 0)) := by simpa using box_set (i := 4) h3 v4
  have h5 : ((((((w.setCell ⟨p, 0, none⟩ v0).setCell ⟨p, 1, none⟩ v1).setCell ⟨p, 2, none⟩ v2).setCell ⟨p, 3, none⟩ v3).setCell ⟨p, 4, none⟩ v4).setCell ⟨p, 5, none⟩ v5).heap[p]? = some (.cells #[v0, v1, v2, v3, v4, v5, c6, c7, c8] t (0, 0)) := by simpa using box_set (i := 5) h4 v5
  have h6 : (((((((w.setCell ⟨p, 0, none⟩ v0).setCell ⟨p, 1, none⟩ v1).setCell ⟨p, 2, none⟩ v2).setCell ⟨p, 3, none⟩ v3).setCell ⟨p, 4, none⟩ v4).setCell ⟨p, 5, none⟩ v5).setCell ⟨p, 6, none⟩ v6).heap[p]? = some (.cells #[v0, v1, v2, v3, v4, v5, v6, c7, c8] t (0, 0)) := by simpa using box_set (i := 6) h5 v6
  have h7 : ((((((((w.setCell ⟨p, 0, none⟩ v0).setCell ⟨p, 1, none⟩ v1).setCell ⟨p, 2, none⟩ v2).setCell ⟨p, 3, none⟩ v3).setCell ⟨p, 4, none⟩ v4).setCell ⟨p, 5, none⟩ v5).setCell ⟨p, 6, none⟩ v6).setCell ⟨p, 7, none⟩ v7).heap[p]? = some (.cells #[v0, v1, v2, v3, v4, v5, v6, v7, c8] t (0, 0)) := by simpa using box_set (i := 7) h6 v7
  have h8 : (((((((((w.setCell ⟨p, 0, none⟩ v0).setCell ⟨p, 1, none⟩ v1).setCell ⟨p, 2, none⟩ v2).setCell ⟨p, 3, none⟩ v3).setCell ⟨p, 4, none⟩ v4).setCell ⟨p, 5, none⟩ v5).setCell ⟨p, 6, none⟩ v6).setCell ⟨p, 7, none⟩ v7).setCell ⟨p, 8, none⟩ v8).heap[p]? = some (.cells #[v0, v1, v2, v3, v4, v5, v6, v7, v8] t (0, 0)) := by simpa using box_set (i := 8) h7 v8
  exact h8
theorem sets9_other {k : Nat} (hk : k ≠ p) : (sets9 w p v0 v1 v2 v3 v4 v5 v6 v7 v8).heap[k]? = w.heap[k]? := by unfold sets9; simp only [set_other hk]
theorem sets9_size : (sets9 w p v0 v1 v2 v3 v4 v5 v6 v7 v8).heap.size = w.heap.size := by simp [sets9, World.setCell]
theorem sets9_rest : (sets9 w p v0 v1 v2 v3 v4 v5 v6 v7 v8).os = w.os ∧ (sets9 w p v0 v1 v2 v3 v4 v5 v6 v7 v8).tape = w.tape ∧ (sets9 w p v0 v1 v2 v3 v4 v5 v6 v7 v8).output = w.output := by simp [sets9, World.setCell]
end

theorem own_in {α : Type} (enc : α → List Value) (ok : α → Prop) (k : Nat) (hk : ∀ a, (enc a).length = k) (d : α) {w : World} {B : Nat} {e : TypeId} {a : Option Addr} {c : Nat} {us : List α} (h : w.ownsRow B e k (.slice a us.length c) us.length (us.flatMap enc)) (hok : ∀ u ∈ us, ok u) (hn : us.length ≤ 9223372036854775807) :
    InRow k enc ok d w a us.length us ∧ ∀ x, a = some x → B ≤ x.block := by
  refine ⟨⟨rfl, hn, ?_⟩, fun x hx => ?_⟩
  · by_cases h0 : us.length = 0
    · exact .inl h0
    · obtain ⟨g, c', hv, _, hB, hg, hj⟩ := own_cells enc k hk d h (by omega)
      simp at hv
      obtain ⟨rfl, rfl⟩ := hv
      refine .inr ⟨g, 0, rfl, hg, fun i hi => ⟨?_, fun j hj' => by rw [Nat.zero_add]; exact hj i hi j hj'⟩⟩
      have e : us.getD i d = us[i] := by simp [List.getD, hi]
      rw [e]; exact hok _ (List.getElem_mem _)
  · rcases h.2 with ⟨h1, _⟩ | ⟨g, cap, cur, hv, hb, _⟩
    · simp at h1; rw [h1.1] at hx; cases hx
    · simp at hv
      rw [hv.1] at hx
      simp only [Option.some.injEq] at hx
      rw [← hx]; exact hb

theorem flatS (l : List ByteArray) : l.map Value.string = l.flatMap encS := by
  induction l with
  | nil => rfl
  | cons a l ih => simp [encS, ih]
theorem mB_small (m : Mg) (hc : chk m = 0) (hl : (mB m).length ≤ 1970) : (∀ f ∈ m.fl, f.size ≤ 1970) ∧ (∀ v ∈ m.vl, v.str.size ≤ 1970) := by
  obtain ⟨s1, s2, hK⟩ := chk_shape hc
  have hlt : (tlB m).length ≤ 1970 := by unfold mB at hl; simp at hl; omega
  have hk := chk_kind hK
  have hnoF : m.kind ≠ 1 → ∀ f ∈ m.fl, f.size ≤ 1970 := fun h f hf => by rw [(s1 h).2] at hf; simp at hf
  rcases hk with hk | hk | hk | hk | hk
  · have hP : chkP m = 0 ∧ (m.any = true → m.fl = []) := by
      unfold chkK at hK
      rw [if_pos hk] at hK
      split at hK
      · omega
      · rename_i hn
        refine ⟨hK, fun ha => ?_⟩
        cases hf : m.fl with
        | nil => rfl
        | cons a l => exact absurd (.inl ⟨ha, by simp [hf]⟩) hn
    obtain ⟨_, _, p3, _⟩ := chkP_zero hP.1
    refine ⟨fun f hf => ?_, fun v hv => by rw [p3] at hv; simp at hv⟩
    by_cases ha : m.any = true
    · rw [hP.2 ha] at hf; simp at hf
    · have et : tlB m = intB m.fl.length ++ m.fl.flatMap txtB := by unfold tlB; rw [if_pos hk, if_neg ha]
      have := flat_le txtB m.fl f hf
      have := txt_len f
      rw [et] at hlt; simp only [List.length_append] at hlt; omega
  · have hP : chkP m = 0 := by unfold chkK at hK; rw [if_neg (by omega), if_pos hk] at hK; exact hK
    obtain ⟨_, _, p3, _⟩ := chkP_zero hP
    exact ⟨hnoF (by omega), fun v hv => by rw [p3] at hv; simp at hv⟩
  · have : m.vl = [] := by
      unfold chkK at hK
      rw [if_neg (by omega), if_neg (by omega), if_pos hk] at hK
      split at hK
      · omega
      · rename_i hn
        cases hv : m.vl with
        | nil => rfl
        | cons a l => exact absurd (.inl (by simp [hv])) hn
    exact ⟨hnoF (by omega), fun v hv => by rw [this] at hv; simp at hv⟩
  all_goals
    have et : tlB m = intB m.pub ++ (intB m.seq ++ (intB m.hops ++ (intB m.vl.length ++ (m.vl.flatMap vlB ++ txtB m.pay)))) := by
      unfold tlB; rw [if_neg (by omega), if_pos (by omega), if_neg (by omega)]
    refine ⟨hnoF (by omega), fun v hv => ?_⟩
    have h1 := flat_le vlB m.vl v hv
    have h2 := txt_len v.str
    have h3 : (vlB v).length = (intB v.num).length + (txtB v.str).length := by unfold vlB; simp
    rw [et] at hlt; simp only [List.length_append] at hlt; omega

theorem in_nil {α : Type} {enc : α → List Value} {ok : α → Prop} {d : α} {k : Nat} {w : World} : InRow k enc ok d w none 0 [] := ⟨rfl, by omega, .inl rfl⟩
theorem ba_szL (l : List UInt8) : (⟨l.toArray⟩ : ByteArray).size = l.length := by
  show l.toArray.size = l.length
  simp

def finO (o : Option (Mg × PS)) : Mg × Nat := match o with
  | none => (mg0, 11)
  | some (m, st) => fin m st

theorem pTs_len (n : Nat) (st : PS) : (pTs n st).1.length = n := by
  induction n with
  | zero => rfl
  | succ n ih => simp [pTs, ih]
theorem pVs_len (n : Nat) (st : PS) : (pVs n st).1.length = n := by
  induction n with
  | zero => rfl
  | succ n ih => simp [pVs, ih]

/-- Read, behind the switch: what was read; the reader lies at w.heap.size + 1. -/
structure Rs (w wr : World) (m : Mg) (fa : Option Addr) (fc : Nat) (va : Option Addr) (vc : Nat) : Prop where
  res : wr.heap[w.heap.size]? = some (.cells #[.int .i64 0, .string ⟨#[]⟩, .bool false, .slice none 0 0, .int .i64 0, .int .i64 0, .int .i64 0, .slice none 0 0, .string ⟨#[]⟩] 27 (0, 0))
  box : wr.heap[w.heap.size + 2]? = some (.cells #[.int .i64 m.kind, .string m.group, .bool m.any, .slice fa m.fl.length fc, .int .i64 m.pub, .int .i64 m.seq, .int .i64 m.hops, .slice va m.vl.length vc, .string m.pay] 27 (0, 0))
  rf : wr.ownsRow (w.heap.size + 3) 9 1 (.slice fa m.fl.length fc) m.fl.length (m.fl.map Value.string)
  rv : wr.ownsRow (w.heap.size + 3) 51 2 (.slice va m.vl.length vc) m.vl.length (m.vl.flatMap Vl.cells)
  bel : Below w.heap.size w wr
  size : w.heap.size + 3 ≤ wr.heap.size
  small : m.group.size ≤ 9223372036854775807 ∧ m.vl.length ≤ 9223372036854775807 ∧ m.fl.length ≤ 9223372036854775807
section
variable {w wr w' : World} {m : Mg} {fa : Option Addr} {fc : Nat} {va : Option Addr} {vc : Nat}
theorem Rs.keep (h : Rs w wr m fa fc va vc) (hs : wr.heap.size ≤ w'.heap.size) (h1 : w'.os = wr.os) (h2 : w'.tape = wr.tape) (h3 : w'.output = wr.output) (hb : ∀ k, k < wr.heap.size → k ≠ w.heap.size + 1 → w'.heap[k]? = wr.heap[k]?) : Rs w w' m fa fc va vc :=
  have hz := h.size
  ⟨(hb _ (by omega) (by omega)).trans h.res, (hb _ (by omega) (by omega)).trans h.box, row_mv h.rf (fun k hk => hb k (h.rf.lt k hk).2 (by have := (h.rf.lt k hk).1; omega)), row_mv h.rv (fun k hk => hb k (h.rv.lt k hk).2 (by have := (h.rv.lt k hk).1; omega)),
   ⟨h1.trans h.bel.os, h2.trans h.bel.tape, h3.trans h.bel.output, Nat.le_trans h.bel.size hs, fun k hk => (hb k (by omega) (by omega)).trans (h.bel.block k hk)⟩, Nat.le_trans hz hs, h.small⟩
theorem Rs.adds (h : Rs w wr m fa fc va vc) (hA : Adds wr w' (w.heap.size + 1)) : Rs w w' m fa fc va vc :=
  h.keep hA.size hA.os hA.tape hA.output (fun k hk hq => hA.block k hk hq)
theorem Rs.same (h : Rs w wr m fa fc va vc) (hS : Same wr w' (w.heap.size + 1)) : Rs w w' m fa fc va vc := h.adds hS.adds
theorem Rs.below (h : Rs w wr m fa fc va vc) (hb : Below wr.heap.size wr w') : Rs w w' m fa fc va vc :=
  h.keep hb.size hb.os hb.tape hb.output (fun k hk _ => hb.block k hk)
theorem Rs.rows (h : Rs w wr m fa fc va vc) {l : List UInt8} (hok : l = mB m ∧ chk m = 0 ∧ l.length ≤ 1970 ∧ m.wf) :
    (InRow 1 encS okS ByteArray.empty wr fa m.fl.length m.fl ∧ ∀ x, fa = some x → x.block ≠ w.heap.size) ∧ (InRow 2 Vl.cells Vl.ok vl0 wr va m.vl.length m.vl ∧ ∀ x, va = some x → x.block ≠ w.heap.size) := by
  obtain ⟨q1, q2⟩ := mB_small m hok.2.1 (by rw [← hok.1]; exact hok.2.2.1)
  have hf := h.rf
  rw [flatS] at hf
  have a1 := own_in encS okS 1 lenS ByteArray.empty hf (fun f hf => by unfold okS; have := q1 f hf; omega) h.small.2.2
  have a2 := own_in Vl.cells Vl.ok 2 Vl.cells_len vl0 h.rv (fun v hv => ⟨hok.2.2.2 v hv, by have := q2 v hv; omega⟩) h.small.2.1
  exact ⟨⟨a1.1, fun x hx => by have := a1.2 x hx; omega⟩, ⟨a2.1, fun x hx => by have := a2.2 x hx; omega⟩⟩
end

set_option maxRecDepth 100000 in
set_option maxHeartbeats 8000000 in
theorem mread_any (s : ByteArray) (w : World) (hs : s.size ≤ 9223372036854775807) :
    Calls Tryd.prog 14 #[.string s] w fun e w' => ∃ fa fc va vc ev, e = .returned (.tuple #[(rdM s.data.toList).1.val fa fc va vc, ev]) ∧ ErrIs w' ev (rdM s.data.toList).2 ∧
      InRow 1 encS okS ByteArray.empty w' fa (rdM s.data.toList).1.fl.length (rdM s.data.toList).1.fl ∧ InRow 2 Vl.cells Vl.ok vl0 w' va (rdM s.data.toList).1.vl.length (rdM s.data.toList).1.vl ∧ Below w.heap.size w w' := by
  have hls : s.data.toList.length = s.size := by simp
  by_cases hbig : 1970 < s.size
  · have HR : Hid (rdM s.data.toList = (mg0, 4)) := (by unfold rdM; rw [if_pos (by omega)] : rdM s.data.toList = (mg0, 4))
    have h1 : (1970 : Int) < (s.size : Int) := by omega
    clear hls
    go_enter Tryd.func14, Tryd.ntmps14
    go_wp2
    refine bodyPost_ret (v := .tuple #[.agg #[.int .i64 0, .string ⟨#[]⟩, .bool false, .slice none 0 0, .int .i64 0, .int .i64 0, .int .i64 0, .slice none 0 0, .string ⟨#[]⟩], .iface 40 (.int .i64 4)]) (by simp [results, Tryd.results14, go_sem]) rfl ⟨none, 0, none, 0, _, by rw [HR.out]; rfl, by rw [HR.out]; exact .inr (.inl ⟨by omega, rfl⟩), ?_, ?_, ?_⟩
    · rw [HR.out]; exact in_nil
    · rw [HR.out]; exact in_nil
    · exact (Below.refl _ _).alloc (Nat.le_refl _) _
  · have hs2 : s.size ≤ 1970 := by omega
    have h1 : ¬ (1970 : Int) < (s.size : Int) := by omega
    obtain ⟨W1, hW1⟩ : ∃ W1, W1 = w.alloc (.cells #[.int .i64 0, .string ⟨#[]⟩, .bool false, .slice none 0 0, .int .i64 0, .int .i64 0, .int .i64 0, .slice none 0 0, .string ⟨#[]⟩] 27) := ⟨_, rfl⟩
    have s1 : W1.heap.size = w.heap.size + 1 := by rw [hW1]; simp
    have b1 : Below w.heap.size w W1 := by rw [hW1]; exact (Below.refl _ _).alloc (Nat.le_refl _) _
    have r1 : W1.heap[w.heap.size]? = some (.cells #[.int .i64 0, .string ⟨#[]⟩, .bool false, .slice none 0 0, .int .i64 0, .int .i64 0, .int .i64 0, .slice none 0 0, .string ⟨#[]⟩] 27 (0, 0)) := by rw [hW1]; exact heap_alloc_new w _
    have HM : Hid (rdM s.data.toList = finO (rdK (pI (s.data.toList, 0)).1 (pT 40 (pI (s.data.toList, 0)).2).1 (pT 40 (pI (s.data.toList, 0)).2).2)) := (by unfold rdM; rw [if_neg (by omega)]; rfl : rdM s.data.toList = _)
    clear hls hbig
    go_enter Tryd.func14, Tryd.ntmps14
    go_wp2_with fail
    rw [← hW1]
    refine (open_any s _).mono ?_
    rintro e w2 ⟨rfl, hw2⟩
    have hR2 : RdL w2 (w.heap.size + 1) s (s.data.toList, 0) := by rw [hw2, ← s1]; exact rdl_new W1 s
    have s2 : w2.heap.size = w.heap.size + 2 := by rw [hw2]; simp; omega
    have b2 : Below W1.heap.size W1 w2 := by rw [hw2]; exact (Below.refl _ _).alloc (Nat.le_refl _) _
    rw [s1]
    clear hw2
    have ci := hR2.int (by omega)
    generalize hk : (pI (s.data.toList, 0)).1 = k at ci HM
    generalize hst1 : (pI (s.data.toList, 0)).2 = st1 at ci HM
    clear hk hst1
    go_wp2_with fail
    refine ci.mono ?_
    rintro e w3 ⟨rfl, hR3, hS3⟩
    have cx := hR3.text (by omega) 40 (by omega)
    generalize hg : (pT 40 st1).1 = g at cx HM
    generalize hst2 : (pT 40 st1).2 = st2 at cx HM
    have hgs : g.size ≤ 9223372036854775807 := by
      rw [← hg]
      unfold pT
      split
      · split
        · split
          · split
            · rename_i q _; rw [ba_szL, List.length_take]; omega
            · exact Nat.zero_le _
          · exact Nat.zero_le _
        · exact Nat.zero_le _
      · exact Nat.zero_le _
    clear hg hst2
    go_wp2_with fail
    refine cx.mono ?_
    rintro e w4 ⟨rfl, hR4, hS4⟩
    have s4 : w4.heap.size = w.heap.size + 2 := by rw [hS4.size, hS3.size, s2]
    obtain ⟨W5, hW5⟩ : ∃ W5, W5 = w4.alloc (.cells #[.int .i64 k, .string g, .bool false, .slice none 0 0, .int .i64 0, .int .i64 0, .int .i64 0, .slice none 0 0, .string ⟨#[]⟩] 27) := ⟨_, rfl⟩
    have hR5 : RdL W5 (w.heap.size + 1) s st2 := by rw [hW5]; exact hR4.at (Below.heap_alloc _ _ _ (by omega))
    have R5 : Rs w W5 ⟨k, g, false, [], 0, 0, 0, [], ⟨#[]⟩⟩ none 0 none 0 := by
      have hbk : ∀ j, j < w.heap.size + 1 → W5.heap[j]? = W1.heap[j]? := fun j hj => by
        rw [hW5, Below.heap_alloc _ _ _ (by omega), hS4.block j (by omega), hS3.block j (by omega)]
        exact b2.block j (by omega)
      refine ⟨(hbk _ (by omega)).trans r1, ?_, World.ownsRow_nil _ _ _ _, World.ownsRow_nil _ _ _ _, ?_, by rw [hW5]; simp; omega, ⟨hgs, by simp, by simp⟩⟩
      · rw [hW5, ← s4]; exact heap_alloc_new w4 _
      · refine ⟨?_, ?_, ?_, by rw [hW5]; simp; omega, fun j hj => (hbk j (by omega)).trans (b1.block j hj)⟩
        · rw [hW5]; exact hS4.os.trans (hS3.os.trans (b2.os.trans b1.os))
        · rw [hW5]; exact hS4.tape.trans (hS3.tape.trans (b2.tape.trans b1.tape))
        · rw [hW5]; exact hS4.output.trans (hS3.output.trans (b2.output.trans b1.output))
    go_upto_region 5 with fail
    rw [← hW5]
    have hl5 := lt_of_block R5.box
    have k0 : W5.cell? ⟨w.heap.size + 2, 0, none⟩ = some (.int .i64 k) := blk_cell (j := 0) R5.box (by simp)
    clear hW5 s4 hR4 hS4 hR3 hS3 hR2 s2 b2 s1 b1 r1 hW1 ci cx
    by_cases k1 : k = 1
    · have q1 := beq_t k1
      subst k1
      by_cases hn : (pI st2).1 < -1 ∨ 16 < (pI st2).1
      · have HR : Hid (rdM s.data.toList = (mg0, 11)) := (by rw [HM.out]; unfold rdK; rw [if_pos rfl, if_pos hn]; rfl : rdM s.data.toList = (mg0, 11))
        have cw := rwish_bad (w.heap.size + 1) (w.heap.size + 2) s st2 W5 hR5 hs2 hn
        clear hn HM
        go_wp2_with fail
        refine cw.mono ?_
        rintro e w6 ⟨rfl, hS6⟩
        have R6 := R5.same hS6
        have hre6 := R6.res
        have z0 : w6.cell? ⟨w.heap.size, 0, none⟩ = some _ := blk_cell (j := 0) hre6 (by simp)
        have z1 : w6.cell? ⟨w.heap.size, 1, none⟩ = some _ := blk_cell (j := 1) hre6 (by simp)
        have z2 : w6.cell? ⟨w.heap.size, 2, none⟩ = some _ := blk_cell (j := 2) hre6 (by simp)
        have z3 : w6.cell? ⟨w.heap.size, 3, none⟩ = some _ := blk_cell (j := 3) hre6 (by simp)
        have z4 : w6.cell? ⟨w.heap.size, 4, none⟩ = some _ := blk_cell (j := 4) hre6 (by simp)
        have z5 : w6.cell? ⟨w.heap.size, 5, none⟩ = some _ := blk_cell (j := 5) hre6 (by simp)
        have z6 : w6.cell? ⟨w.heap.size, 6, none⟩ = some _ := blk_cell (j := 6) hre6 (by simp)
        have z7 : w6.cell? ⟨w.heap.size, 7, none⟩ = some _ := blk_cell (j := 7) hre6 (by simp)
        have z8 : w6.cell? ⟨w.heap.size, 8, none⟩ = some _ := blk_cell (j := 8) hre6 (by simp)
        have zf : ∀ o, w6.frozen? ⟨w.heap.size, o, none⟩ = false := fun o => by simp [World.frozen?, hre6]
        have zl := lt_of_block hre6
        have hbl6 := R6.bel
        obtain ⟨W9, hW9⟩ : ∃ W9, W9 = sets9 w6 w.heap.size (.int .i64 0) (.string ⟨#[]⟩) (.bool false) (.slice none 0 0) (.int .i64 0) (.int .i64 0) (.int .i64 0) (.slice none 0 0) (.string ⟨#[]⟩) := ⟨_, rfl⟩
        have b9 : W9.heap[w.heap.size]? = _ := (congrArg (fun W : World => W.heap[w.heap.size]?) hW9).trans (sets9_box hre6)
        have y0 : W9.cell? ⟨w.heap.size, 0, none⟩ = some (.int .i64 0) := blk_cell (j := 0) b9 (by simp)
        have y1 : W9.cell? ⟨w.heap.size, 1, none⟩ = some (.string ⟨#[]⟩) := blk_cell (j := 1) b9 (by simp)
        have y2 : W9.cell? ⟨w.heap.size, 2, none⟩ = some (.bool false) := blk_cell (j := 2) b9 (by simp)
        have y3 : W9.cell? ⟨w.heap.size, 3, none⟩ = some (.slice none 0 0) := blk_cell (j := 3) b9 (by simp)
        have y4 : W9.cell? ⟨w.heap.size, 4, none⟩ = some (.int .i64 0) := blk_cell (j := 4) b9 (by simp)
        have y5 : W9.cell? ⟨w.heap.size, 5, none⟩ = some (.int .i64 0) := blk_cell (j := 5) b9 (by simp)
        have y6 : W9.cell? ⟨w.heap.size, 6, none⟩ = some (.int .i64 0) := blk_cell (j := 6) b9 (by simp)
        have y7 : W9.cell? ⟨w.heap.size, 7, none⟩ = some (.slice none 0 0) := blk_cell (j := 7) b9 (by simp)
        have y8 : W9.cell? ⟨w.heap.size, 8, none⟩ = some (.string ⟨#[]⟩) := blk_cell (j := 8) b9 (by simp)
        have o9 : ∀ k, k ≠ w.heap.size → W9.heap[k]? = w6.heap[k]? := fun k hk => by rw [hW9]; exact sets9_other hk
        have n9 : w6.heap.size ≤ W9.heap.size := by rw [hW9, sets9_size]; exact Nat.le_refl _
        have e9 : W9.os = w6.os ∧ W9.tape = w6.tape ∧ W9.output = w6.output := by rw [hW9]; exact sets9_rest
        have g9 : (((((((((w6.setCell ⟨w.heap.size, 0, none⟩ (.int .i64 0)).setCell ⟨w.heap.size, 1, none⟩ (.string ⟨#[]⟩)).setCell ⟨w.heap.size, 2, none⟩ (.bool false)).setCell ⟨w.heap.size, 3, none⟩ (.slice none 0 0)).setCell ⟨w.heap.size, 4, none⟩ (.int .i64 0)).setCell ⟨w.heap.size, 5, none⟩ (.int .i64 0)).setCell ⟨w.heap.size, 6, none⟩ (.int .i64 0)).setCell ⟨w.heap.size, 7, none⟩ (.slice none 0 0)).setCell ⟨w.heap.size, 8, none⟩ (.string ⟨#[]⟩)) = W9 := hW9.symm
        have H9 : Hid _ := g9
        clear hW9 g9 b9
        clear R5 R6 hre6 hS6 cw
        go_wp2
        rw [H9.out]
        refine bodyPost_ret (v := .tuple #[.agg #[.int .i64 0, .string ⟨#[]⟩, .bool false, .slice none 0 0, .int .i64 0, .int .i64 0, .int .i64 0, .slice none 0 0, .string ⟨#[]⟩], .iface 40 (.int .i64 11)]) (by simp [results, Tryd.results14, go_sem, y0, y1, y2, y3, y4, y5, y6, y7, y8]) rfl ⟨none, 0, none, 0, _, by rw [HR.out]; rfl, by rw [HR.out]; exact .inr (.inl ⟨by omega, rfl⟩), ?_, ?_, ?_⟩
        · rw [HR.out]; exact in_nil
        · rw [HR.out]; exact in_nil
        · exact below_sets hbl6 n9 e9.1 e9.2.1 e9.2.2 o9
      · have hsz5 := R5.size
        have cw := rwish_ok (w.heap.size + 1) (w.heap.size + 2) s g 1 st2 W5 hR5 hs2 hl5 (by omega) R5.box (by omega) (by omega)
        have hlen := pTs_len (pI st2).1.toNat (pI st2).2
        have hK : rdK 1 g st2 = some (⟨1, g, decide ((pI st2).1 = -1), (pTs (pI st2).1.toNat (pI st2).2).1, 0, 0, 0, [], ByteArray.empty⟩, (pTs (pI st2).1.toNat (pI st2).2).2) := by unfold rdK; rw [if_pos rfl, if_neg hn]
        generalize hm : (⟨1, g, decide ((pI st2).1 = -1), (pTs (pI st2).1.toNat (pI st2).2).1, 0, 0, 0, [], ByteArray.empty⟩ : Mg) = m at hK
        have hfin : rdM s.data.toList = fin m (pTs (pI st2).1.toNat (pI st2).2).2 := by rw [HM.out, hK]; rfl
        have hcnt : (pI st2).1.toNat ≤ 16 := by omega
        generalize decide ((pI st2).1 = -1) = any at *
        generalize hfs : (pTs (pI st2).1.toNat (pI st2).2).1 = fs at *
        generalize hst4 : (pTs (pI st2).1.toNat (pI st2).2).2 = st4 at *
        generalize (pI st2).1.toNat = cnt at *
        clear hfs hst4 hn HM hK k0
        have k0 : W5.cell? ⟨w.heap.size + 2, 0, none⟩ = some (.int .i64 1) := blk_cell (j := 0) R5.box (by simp)
        go_wp2_with fail
        refine cw.mono ?_
        rintro e w4b ⟨rfl, v, hWs⟩
        obtain ⟨fa, fc, hv⟩ := hWs.shape
        subst hv
        have R : Hid (Rs w w4b m fa fc none 0) := by
          show Rs w w4b m fa fc none 0
          rw [← hm]
          have hne : w.heap.size ≠ w.heap.size + 1 := by omega
          refine ⟨(hWs.blk _ (by omega) (by omega) (by omega)).trans R5.res, ?_, ?_, World.ownsRow_nil _ _ _ _, ?_, Nat.le_trans R5.size hWs.size, ⟨hgs, by simp, by show fs.length ≤ _; omega⟩⟩
          · show w4b.heap[w.heap.size + 2]? = some (.cells #[.int .i64 1, .string g, .bool any, .slice fa fs.length fc, .int .i64 0, .int .i64 0, .int .i64 0, .slice none 0 0, .string ⟨#[]⟩] 27 (0, 0))
            rw [hlen]; exact hWs.box
          · show w4b.ownsRow _ _ 1 (.slice fa fs.length fc) fs.length _
            rw [hlen]; exact own_base hWs.row (by omega)
          · exact ⟨hWs.os.trans R5.bel.os, hWs.tape.trans R5.bel.tape, hWs.output.trans R5.bel.output, Nat.le_trans R5.bel.size hWs.size, fun j hj => (hWs.blk j (by omega) (by omega) (by omega)).trans (R5.bel.block j hj)⟩
        have hRd : RdL w4b (w.heap.size + 1) s st4 := hWs.rd
        clear R5 hR5 hWs cw hm hlen k0 hl5
        have HF : Hid (rdM s.data.toList = fin m st4) := hfin
        clear hfin
        have hbx := R.out.box
        have hre := R.out.res
        have hsz := R.out.size
        have hbel := R.out.bel
        by_cases hd : dn st4 = 0
        · have ct := hRd.done0 hd
          go_wp2_with fail
          refine ct.mono ?_
          rintro e w5 ⟨rfl, hA⟩
          have R5 := R.out.adds hA
          have hbx5 := R5.box
          have hre5 := R5.res
          have x0 : w5.cell? ⟨w.heap.size + 2, 0, none⟩ = some _ := blk_cell (j := 0) hbx5 (by simp)
          have x1 : w5.cell? ⟨w.heap.size + 2, 1, none⟩ = some _ := blk_cell (j := 1) hbx5 (by simp)
          have x2 : w5.cell? ⟨w.heap.size + 2, 2, none⟩ = some _ := blk_cell (j := 2) hbx5 (by simp)
          have x3 : w5.cell? ⟨w.heap.size + 2, 3, none⟩ = some _ := blk_cell (j := 3) hbx5 (by simp)
          have x4 : w5.cell? ⟨w.heap.size + 2, 4, none⟩ = some _ := blk_cell (j := 4) hbx5 (by simp)
          have x5 : w5.cell? ⟨w.heap.size + 2, 5, none⟩ = some _ := blk_cell (j := 5) hbx5 (by simp)
          have x6 : w5.cell? ⟨w.heap.size + 2, 6, none⟩ = some _ := blk_cell (j := 6) hbx5 (by simp)
          have x7 : w5.cell? ⟨w.heap.size + 2, 7, none⟩ = some _ := blk_cell (j := 7) hbx5 (by simp)
          have x8 : w5.cell? ⟨w.heap.size + 2, 8, none⟩ = some _ := blk_cell (j := 8) hbx5 (by simp)
          have xl := lt_of_block hbx5
          have hck := mcheck_any m fa fc none 0 w5 R5.small.1 R5.small.2.1 R5.small.2.2
          unfold Mg.val at hck
          go_wp2_with fail
          refine hck.mono ?_
          rintro e w6 ⟨rfl, hb6⟩
          have R6 := R5.below hb6
          have hbx6 := R6.box
          have hre6 := R6.res
          clear x0 x1 x2 x3 x4 x5 x6 x7 x8
          by_cases hc : chk m = 0
          · have HR : Hid (rdM s.data.toList = (m, 0)) := (by rw [HF.out]; unfold fin; rw [if_pos hd, if_pos hc] : rdM s.data.toList = (m, 0))
            rw [hc, cdV0]
            have z0 : w6.cell? ⟨w.heap.size, 0, none⟩ = some _ := blk_cell (j := 0) hre6 (by simp)
            have z1 : w6.cell? ⟨w.heap.size, 1, none⟩ = some _ := blk_cell (j := 1) hre6 (by simp)
            have z2 : w6.cell? ⟨w.heap.size, 2, none⟩ = some _ := blk_cell (j := 2) hre6 (by simp)
            have z3 : w6.cell? ⟨w.heap.size, 3, none⟩ = some _ := blk_cell (j := 3) hre6 (by simp)
            have z4 : w6.cell? ⟨w.heap.size, 4, none⟩ = some _ := blk_cell (j := 4) hre6 (by simp)
            have z5 : w6.cell? ⟨w.heap.size, 5, none⟩ = some _ := blk_cell (j := 5) hre6 (by simp)
            have z6 : w6.cell? ⟨w.heap.size, 6, none⟩ = some _ := blk_cell (j := 6) hre6 (by simp)
            have z7 : w6.cell? ⟨w.heap.size, 7, none⟩ = some _ := blk_cell (j := 7) hre6 (by simp)
            have z8 : w6.cell? ⟨w.heap.size, 8, none⟩ = some _ := blk_cell (j := 8) hre6 (by simp)
            have zf : ∀ o, w6.frozen? ⟨w.heap.size, o, none⟩ = false := fun o => by simp [World.frozen?, hre6]
            have zl := lt_of_block hre6
            have x0 : w6.cell? ⟨w.heap.size + 2, 0, none⟩ = some _ := blk_cell (j := 0) hbx6 (by simp)
            have x1 : w6.cell? ⟨w.heap.size + 2, 1, none⟩ = some _ := blk_cell (j := 1) hbx6 (by simp)
            have x2 : w6.cell? ⟨w.heap.size + 2, 2, none⟩ = some _ := blk_cell (j := 2) hbx6 (by simp)
            have x3 : w6.cell? ⟨w.heap.size + 2, 3, none⟩ = some _ := blk_cell (j := 3) hbx6 (by simp)
            have x4 : w6.cell? ⟨w.heap.size + 2, 4, none⟩ = some _ := blk_cell (j := 4) hbx6 (by simp)
            have x5 : w6.cell? ⟨w.heap.size + 2, 5, none⟩ = some _ := blk_cell (j := 5) hbx6 (by simp)
            have x6 : w6.cell? ⟨w.heap.size + 2, 6, none⟩ = some _ := blk_cell (j := 6) hbx6 (by simp)
            have x7 : w6.cell? ⟨w.heap.size + 2, 7, none⟩ = some _ := blk_cell (j := 7) hbx6 (by simp)
            have x8 : w6.cell? ⟨w.heap.size + 2, 8, none⟩ = some _ := blk_cell (j := 8) hbx6 (by simp)
            have xl6 := lt_of_block hbx6
            have HI : Hid _ := R6.rows (by have := rdM_ok s.data.toList (by rw [HR.out]); rw [HR.out] at this; exact this)
            have hbl6 := R6.bel
            obtain ⟨W9, hW9⟩ : ∃ W9, W9 = sets9 w6 w.heap.size (.int .i64 m.kind) (.string m.group) (.bool m.any) (.slice fa m.fl.length fc) (.int .i64 m.pub) (.int .i64 m.seq) (.int .i64 m.hops) (.slice none m.vl.length 0) (.string m.pay) := ⟨_, rfl⟩
            have b9 : W9.heap[w.heap.size]? = _ := (congrArg (fun W : World => W.heap[w.heap.size]?) hW9).trans (sets9_box hre6)
            have y0 : W9.cell? ⟨w.heap.size, 0, none⟩ = some (.int .i64 m.kind) := blk_cell (j := 0) b9 (by simp)
            have y1 : W9.cell? ⟨w.heap.size, 1, none⟩ = some (.string m.group) := blk_cell (j := 1) b9 (by simp)
            have y2 : W9.cell? ⟨w.heap.size, 2, none⟩ = some (.bool m.any) := blk_cell (j := 2) b9 (by simp)
            have y3 : W9.cell? ⟨w.heap.size, 3, none⟩ = some (.slice fa m.fl.length fc) := blk_cell (j := 3) b9 (by simp)
            have y4 : W9.cell? ⟨w.heap.size, 4, none⟩ = some (.int .i64 m.pub) := blk_cell (j := 4) b9 (by simp)
            have y5 : W9.cell? ⟨w.heap.size, 5, none⟩ = some (.int .i64 m.seq) := blk_cell (j := 5) b9 (by simp)
            have y6 : W9.cell? ⟨w.heap.size, 6, none⟩ = some (.int .i64 m.hops) := blk_cell (j := 6) b9 (by simp)
            have y7 : W9.cell? ⟨w.heap.size, 7, none⟩ = some (.slice none m.vl.length 0) := blk_cell (j := 7) b9 (by simp)
            have y8 : W9.cell? ⟨w.heap.size, 8, none⟩ = some (.string m.pay) := blk_cell (j := 8) b9 (by simp)
            have o9 : ∀ k, k ≠ w.heap.size → W9.heap[k]? = w6.heap[k]? := fun k hk => by rw [hW9]; exact sets9_other hk
            have n9 : w6.heap.size ≤ W9.heap.size := by rw [hW9, sets9_size]; exact Nat.le_refl _
            have e9 : W9.os = w6.os ∧ W9.tape = w6.tape ∧ W9.output = w6.output := by rw [hW9]; exact sets9_rest
            have g9 : (((((((((w6.setCell ⟨w.heap.size, 0, none⟩ (.int .i64 m.kind)).setCell ⟨w.heap.size, 1, none⟩ (.string m.group)).setCell ⟨w.heap.size, 2, none⟩ (.bool m.any)).setCell ⟨w.heap.size, 3, none⟩ (.slice fa m.fl.length fc)).setCell ⟨w.heap.size, 4, none⟩ (.int .i64 m.pub)).setCell ⟨w.heap.size, 5, none⟩ (.int .i64 m.seq)).setCell ⟨w.heap.size, 6, none⟩ (.int .i64 m.hops)).setCell ⟨w.heap.size, 7, none⟩ (.slice none m.vl.length 0)).setCell ⟨w.heap.size, 8, none⟩ (.string m.pay)) = W9 := hW9.symm
            have H9 : Hid _ := g9
            clear hW9 g9 b9
            clear R5 R6 hbx5 hbx6 hre5 hre6 hA hb6
            go_wp2
            rw [H9.out]
            refine bodyPost_ret (v := .tuple #[m.val fa fc none 0, .nilIface]) (by simp [Mg.val, results, Tryd.results14, go_sem, y0, y1, y2, y3, y4, y5, y6, y7, y8]) rfl ⟨fa, fc, none, 0, _, by rw [HR.out], by rw [HR.out]; exact .inl ⟨rfl, rfl⟩, ?_, ?_, ?_⟩
            · rw [HR.out]; exact InRow.mv HI.out.1 n9 o9
            · rw [HR.out]; exact InRow.mv HI.out.2 n9 o9
            · exact below_sets hbl6 n9 e9.1 e9.2.1 e9.2.2 o9
          · have HR : Hid (rdM s.data.toList = (mg0, chk m)) := (by rw [HF.out]; unfold fin; rw [if_pos hd, if_neg hc] : rdM s.data.toList = (mg0, chk m))
            rw [cdV_ne _ hc]
            have z0 : w6.cell? ⟨w.heap.size, 0, none⟩ = some _ := blk_cell (j := 0) hre6 (by simp)
            have z1 : w6.cell? ⟨w.heap.size, 1, none⟩ = some _ := blk_cell (j := 1) hre6 (by simp)
            have z2 : w6.cell? ⟨w.heap.size, 2, none⟩ = some _ := blk_cell (j := 2) hre6 (by simp)
            have z3 : w6.cell? ⟨w.heap.size, 3, none⟩ = some _ := blk_cell (j := 3) hre6 (by simp)
            have z4 : w6.cell? ⟨w.heap.size, 4, none⟩ = some _ := blk_cell (j := 4) hre6 (by simp)
            have z5 : w6.cell? ⟨w.heap.size, 5, none⟩ = some _ := blk_cell (j := 5) hre6 (by simp)
            have z6 : w6.cell? ⟨w.heap.size, 6, none⟩ = some _ := blk_cell (j := 6) hre6 (by simp)
            have z7 : w6.cell? ⟨w.heap.size, 7, none⟩ = some _ := blk_cell (j := 7) hre6 (by simp)
            have z8 : w6.cell? ⟨w.heap.size, 8, none⟩ = some _ := blk_cell (j := 8) hre6 (by simp)
            have zf : ∀ o, w6.frozen? ⟨w.heap.size, o, none⟩ = false := fun o => by simp [World.frozen?, hre6]
            have zl := lt_of_block hre6
            have hbl6 := R6.bel
            obtain ⟨W9, hW9⟩ : ∃ W9, W9 = sets9 w6 w.heap.size (.int .i64 0) (.string ⟨#[]⟩) (.bool false) (.slice none 0 0) (.int .i64 0) (.int .i64 0) (.int .i64 0) (.slice none 0 0) (.string ⟨#[]⟩) := ⟨_, rfl⟩
            have b9 : W9.heap[w.heap.size]? = _ := (congrArg (fun W : World => W.heap[w.heap.size]?) hW9).trans (sets9_box hre6)
            have y0 : W9.cell? ⟨w.heap.size, 0, none⟩ = some (.int .i64 0) := blk_cell (j := 0) b9 (by simp)
            have y1 : W9.cell? ⟨w.heap.size, 1, none⟩ = some (.string ⟨#[]⟩) := blk_cell (j := 1) b9 (by simp)
            have y2 : W9.cell? ⟨w.heap.size, 2, none⟩ = some (.bool false) := blk_cell (j := 2) b9 (by simp)
            have y3 : W9.cell? ⟨w.heap.size, 3, none⟩ = some (.slice none 0 0) := blk_cell (j := 3) b9 (by simp)
            have y4 : W9.cell? ⟨w.heap.size, 4, none⟩ = some (.int .i64 0) := blk_cell (j := 4) b9 (by simp)
            have y5 : W9.cell? ⟨w.heap.size, 5, none⟩ = some (.int .i64 0) := blk_cell (j := 5) b9 (by simp)
            have y6 : W9.cell? ⟨w.heap.size, 6, none⟩ = some (.int .i64 0) := blk_cell (j := 6) b9 (by simp)
            have y7 : W9.cell? ⟨w.heap.size, 7, none⟩ = some (.slice none 0 0) := blk_cell (j := 7) b9 (by simp)
            have y8 : W9.cell? ⟨w.heap.size, 8, none⟩ = some (.string ⟨#[]⟩) := blk_cell (j := 8) b9 (by simp)
            have o9 : ∀ k, k ≠ w.heap.size → W9.heap[k]? = w6.heap[k]? := fun k hk => by rw [hW9]; exact sets9_other hk
            have n9 : w6.heap.size ≤ W9.heap.size := by rw [hW9, sets9_size]; exact Nat.le_refl _
            have e9 : W9.os = w6.os ∧ W9.tape = w6.tape ∧ W9.output = w6.output := by rw [hW9]; exact sets9_rest
            have g9 : (((((((((w6.setCell ⟨w.heap.size, 0, none⟩ (.int .i64 0)).setCell ⟨w.heap.size, 1, none⟩ (.string ⟨#[]⟩)).setCell ⟨w.heap.size, 2, none⟩ (.bool false)).setCell ⟨w.heap.size, 3, none⟩ (.slice none 0 0)).setCell ⟨w.heap.size, 4, none⟩ (.int .i64 0)).setCell ⟨w.heap.size, 5, none⟩ (.int .i64 0)).setCell ⟨w.heap.size, 6, none⟩ (.int .i64 0)).setCell ⟨w.heap.size, 7, none⟩ (.slice none 0 0)).setCell ⟨w.heap.size, 8, none⟩ (.string ⟨#[]⟩)) = W9 := hW9.symm
            have H9 : Hid _ := g9
            clear hW9 g9 b9
            clear R5 R6 hbx5 hbx6 hre5 hre6 hA hb6
            go_wp2
            rw [H9.out]
            refine bodyPost_ret (v := .tuple #[.agg #[.int .i64 0, .string ⟨#[]⟩, .bool false, .slice none 0 0, .int .i64 0, .int .i64 0, .int .i64 0, .slice none 0 0, .string ⟨#[]⟩], .iface 40 (.int .i64 (chk m : Int))]) (by simp [results, Tryd.results14, go_sem, y0, y1, y2, y3, y4, y5, y6, y7, y8]) rfl ⟨none, 0, none, 0, _, by rw [HR.out]; rfl, by rw [HR.out]; exact .inr (.inl ⟨hc, rfl⟩), ?_, ?_, ?_⟩
            · rw [HR.out]; exact in_nil
            · rw [HR.out]; exact in_nil
            · exact below_sets hbl6 n9 e9.1 e9.2.1 e9.2.2 o9
        · have HR : Hid (rdM s.data.toList = (mg0, dn st4)) := (by rw [HF.out]; unfold fin; rw [if_neg hd] : rdM s.data.toList = (mg0, dn st4))
          have ct := hRd.doneE hd
          go_wp2_with fail
          refine ct.mono ?_
          rintro e w6 ⟨gf, rfl, hF, hgf, hA⟩
          have R6 := R.out.adds hA
          have hre6 := R6.res
          have z0 : w6.cell? ⟨w.heap.size, 0, none⟩ = some _ := blk_cell (j := 0) hre6 (by simp)
          have z1 : w6.cell? ⟨w.heap.size, 1, none⟩ = some _ := blk_cell (j := 1) hre6 (by simp)
          have z2 : w6.cell? ⟨w.heap.size, 2, none⟩ = some _ := blk_cell (j := 2) hre6 (by simp)
          have z3 : w6.cell? ⟨w.heap.size, 3, none⟩ = some _ := blk_cell (j := 3) hre6 (by simp)
          have z4 : w6.cell? ⟨w.heap.size, 4, none⟩ = some _ := blk_cell (j := 4) hre6 (by simp)
          have z5 : w6.cell? ⟨w.heap.size, 5, none⟩ = some _ := blk_cell (j := 5) hre6 (by simp)
          have z6 : w6.cell? ⟨w.heap.size, 6, none⟩ = some _ := blk_cell (j := 6) hre6 (by simp)
          have z7 : w6.cell? ⟨w.heap.size, 7, none⟩ = some _ := blk_cell (j := 7) hre6 (by simp)
          have z8 : w6.cell? ⟨w.heap.size, 8, none⟩ = some _ := blk_cell (j := 8) hre6 (by simp)
          have zf : ∀ o, w6.frozen? ⟨w.heap.size, o, none⟩ = false := fun o => by simp [World.frozen?, hre6]
          have zl := lt_of_block hre6
          have hbl6 := R6.bel
          obtain ⟨W9, hW9⟩ : ∃ W9, W9 = sets9 w6 w.heap.size (.int .i64 0) (.string ⟨#[]⟩) (.bool false) (.slice none 0 0) (.int .i64 0) (.int .i64 0) (.int .i64 0) (.slice none 0 0) (.string ⟨#[]⟩) := ⟨_, rfl⟩
          have b9 : W9.heap[w.heap.size]? = _ := (congrArg (fun W : World => W.heap[w.heap.size]?) hW9).trans (sets9_box hre6)
          have y0 : W9.cell? ⟨w.heap.size, 0, none⟩ = some (.int .i64 0) := blk_cell (j := 0) b9 (by simp)
          have y1 : W9.cell? ⟨w.heap.size, 1, none⟩ = some (.string ⟨#[]⟩) := blk_cell (j := 1) b9 (by simp)
          have y2 : W9.cell? ⟨w.heap.size, 2, none⟩ = some (.bool false) := blk_cell (j := 2) b9 (by simp)
          have y3 : W9.cell? ⟨w.heap.size, 3, none⟩ = some (.slice none 0 0) := blk_cell (j := 3) b9 (by simp)
          have y4 : W9.cell? ⟨w.heap.size, 4, none⟩ = some (.int .i64 0) := blk_cell (j := 4) b9 (by simp)
          have y5 : W9.cell? ⟨w.heap.size, 5, none⟩ = some (.int .i64 0) := blk_cell (j := 5) b9 (by simp)
          have y6 : W9.cell? ⟨w.heap.size, 6, none⟩ = some (.int .i64 0) := blk_cell (j := 6) b9 (by simp)
          have y7 : W9.cell? ⟨w.heap.size, 7, none⟩ = some (.slice none 0 0) := blk_cell (j := 7) b9 (by simp)
          have y8 : W9.cell? ⟨w.heap.size, 8, none⟩ = some (.string ⟨#[]⟩) := blk_cell (j := 8) b9 (by simp)
          have o9 : ∀ k, k ≠ w.heap.size → W9.heap[k]? = w6.heap[k]? := fun k hk => by rw [hW9]; exact sets9_other hk
          have n9 : w6.heap.size ≤ W9.heap.size := by rw [hW9, sets9_size]; exact Nat.le_refl _
          have e9 : W9.os = w6.os ∧ W9.tape = w6.tape ∧ W9.output = w6.output := by rw [hW9]; exact sets9_rest
          have g9 : (((((((((w6.setCell ⟨w.heap.size, 0, none⟩ (.int .i64 0)).setCell ⟨w.heap.size, 1, none⟩ (.string ⟨#[]⟩)).setCell ⟨w.heap.size, 2, none⟩ (.bool false)).setCell ⟨w.heap.size, 3, none⟩ (.slice none 0 0)).setCell ⟨w.heap.size, 4, none⟩ (.int .i64 0)).setCell ⟨w.heap.size, 5, none⟩ (.int .i64 0)).setCell ⟨w.heap.size, 6, none⟩ (.int .i64 0)).setCell ⟨w.heap.size, 7, none⟩ (.slice none 0 0)).setCell ⟨w.heap.size, 8, none⟩ (.string ⟨#[]⟩)) = W9 := hW9.symm
          have H9 : Hid _ := g9
          clear hW9 g9 b9
          clear hre6 hA
          go_wp2
          rw [H9.out]
          refine bodyPost_ret (v := .tuple #[.agg #[.int .i64 0, .string ⟨#[]⟩, .bool false, .slice none 0 0, .int .i64 0, .int .i64 0, .int .i64 0, .slice none 0 0, .string ⟨#[]⟩], .iface 124 (.pointer (some ⟨gf, 0, none⟩))]) (by simp [results, Tryd.results14, go_sem, y0, y1, y2, y3, y4, y5, y6, y7, y8]) rfl ⟨none, 0, none, 0, _, by rw [HR.out]; rfl, by rw [HR.out]; exact .inr (.inr ⟨hd, hF.mv o9 (by omega)⟩), ?_, ?_, ?_⟩
          · rw [HR.out]; exact in_nil
          · rw [HR.out]; exact in_nil
          · exact below_sets hbl6 n9 e9.1 e9.2.1 e9.2.2 o9
    by_cases k5 : k = 5
    · have q1 := beq_f k1
      have q3 := beq_f (show ¬ k = 3 by omega)
      have q4 := beq_f (show ¬ k = 4 by omega)
      have q5 := beq_t k5
      have n5 := bne_f k5
      have hK : rdK k g st2 = some (⟨5, g, false, [], (pI st2).1, (pI (pI st2).2).1, 0, [], ByteArray.empty⟩, (pI (pI st2).2).2) := by unfold rdK; rw [if_neg k1, if_pos k5]
      have e5 : (⟨5, g, false, [], (pI st2).1, (pI (pI st2).2).1, 0, [], ByteArray.empty⟩ : Mg) = ⟨k, g, false, [], (pI st2).1, (pI (pI st2).2).1, 0, [], ByteArray.empty⟩ := by rw [k5]
      rw [e5] at hK
      generalize hm : (⟨k, g, false, [], (pI st2).1, (pI (pI st2).2).1, 0, [], ByteArray.empty⟩ : Mg) = m at hK
      have hfin : rdM s.data.toList = fin m (pI (pI st2).2).2 := by rw [HM.out, hK]; rfl
      have cp := hR5.int (by omega)
      have cs : ∀ W, RdL W (w.heap.size + 1) s (pI st2).2 → _ := fun W hW => RdL.int (w := W) (q := w.heap.size + 1) (s := s) (st := (pI st2).2) hW (by omega)
      generalize (pI (pI st2).2).1 = seq at *
      generalize (pI (pI st2).2).2 = st4 at *
      generalize (pI st2).1 = pub at *
      generalize (pI st2).2 = st3 at *
      clear hK HM k1 k5 e5
      go_wp2_with fail
      refine cp.mono ?_
      rintro e w2b ⟨rfl, hRb, hSb⟩
      go_wp2_with fail
      refine (cs _ hRb).mono ?_
      rintro e w3b ⟨rfl, hRc, hSc⟩
      have R3 := (R5.same hSb).same hSc
      have bx := R3.box
      have j0 : w3b.cell? ⟨w.heap.size + 2, 0, none⟩ = some (.int .i64 k) := blk_cell (j := 0) bx (by simp)
      have j4 : w3b.cell? ⟨w.heap.size + 2, 4, none⟩ = some (.int .i64 0) := blk_cell (j := 4) bx (by simp)
      have j5 : w3b.cell? ⟨w.heap.size + 2, 5, none⟩ = some (.int .i64 0) := blk_cell (j := 5) bx (by simp)
      have jf : ∀ o, w3b.frozen? ⟨w.heap.size + 2, o, none⟩ = false := fun o => by simp [World.frozen?, bx]
      have jl := lt_of_block bx
      obtain ⟨w4b, hw4⟩ : ∃ W, W = (w3b.setCell ⟨w.heap.size + 2, 4, none⟩ (.int .i64 pub)).setCell ⟨w.heap.size + 2, 5, none⟩ (.int .i64 seq) := ⟨_, rfl⟩
      have bx4 : w4b.heap[w.heap.size + 2]? = some (.cells #[.int .i64 k, .string g, .bool false, .slice none 0 0, .int .i64 pub, .int .i64 seq, .int .i64 0, .slice none 0 0, .string ⟨#[]⟩] 27 (0, 0)) := by
        rw [hw4]; simpa using box_set (i := 5) (box_set (i := 4) bx (.int .i64 pub)) (.int .i64 seq)
      have ob4 : ∀ j, j ≠ w.heap.size + 2 → w4b.heap[j]? = w3b.heap[j]? := fun j hj => by rw [hw4, set_other hj, set_other hj]
      have R : Hid (Rs w w4b m none 0 none 0) := by
        show Rs w w4b m none 0 none 0
        rw [← hm]
        refine ⟨(ob4 _ (by omega)).trans R3.res, bx4, World.ownsRow_nil _ _ _ _, World.ownsRow_nil _ _ _ _, ?_, by rw [hw4]; simpa [World.setCell] using R3.size, ⟨hgs, by simp, by simp⟩⟩
        have hb3 := R3.bel
        exact ⟨by rw [hw4]; exact hb3.os, by rw [hw4]; exact hb3.tape, by rw [hw4]; exact hb3.output, by rw [hw4]; simpa [World.setCell] using hb3.size, fun j hj => (ob4 j (by omega)).trans (hb3.block j hj)⟩
      have hRd : RdL w4b (w.heap.size + 1) s st4 := hRc.at (ob4 _ (by omega))
      have jk : w4b.cell? ⟨w.heap.size + 2, 0, none⟩ = some (.int .i64 k) := blk_cell (j := 0) bx4 (by simp)
      go_upto_region 14 with fail
      rw [← hw4]
      clear hw4 bx4 ob4 R3 bx j0 j4 j5 jf jl hRb hSb hRc hSc R5 hR5 cp cs hm k0 hl5
      have HF : Hid (rdM s.data.toList = fin m st4) := hfin
      clear hfin
      have hbx := R.out.box
      have hre := R.out.res
      have hsz := R.out.size
      have hbel := R.out.bel
      by_cases hd : dn st4 = 0
      · have ct := hRd.done0 hd
        go_wp2_with fail
        refine ct.mono ?_
        rintro e w5 ⟨rfl, hA⟩
        have R5 := R.out.adds hA
        have hbx5 := R5.box
        have hre5 := R5.res
        have x0 : w5.cell? ⟨w.heap.size + 2, 0, none⟩ = some _ := blk_cell (j := 0) hbx5 (by simp)
        have x1 : w5.cell? ⟨w.heap.size + 2, 1, none⟩ = some _ := blk_cell (j := 1) hbx5 (by simp)
        have x2 : w5.cell? ⟨w.heap.size + 2, 2, none⟩ = some _ := blk_cell (j := 2) hbx5 (by simp)
        have x3 : w5.cell? ⟨w.heap.size + 2, 3, none⟩ = some _ := blk_cell (j := 3) hbx5 (by simp)
        have x4 : w5.cell? ⟨w.heap.size + 2, 4, none⟩ = some _ := blk_cell (j := 4) hbx5 (by simp)
        have x5 : w5.cell? ⟨w.heap.size + 2, 5, none⟩ = some _ := blk_cell (j := 5) hbx5 (by simp)
        have x6 : w5.cell? ⟨w.heap.size + 2, 6, none⟩ = some _ := blk_cell (j := 6) hbx5 (by simp)
        have x7 : w5.cell? ⟨w.heap.size + 2, 7, none⟩ = some _ := blk_cell (j := 7) hbx5 (by simp)
        have x8 : w5.cell? ⟨w.heap.size + 2, 8, none⟩ = some _ := blk_cell (j := 8) hbx5 (by simp)
        have xl := lt_of_block hbx5
        have hck := mcheck_any m none 0 none 0 w5 R5.small.1 R5.small.2.1 R5.small.2.2
        unfold Mg.val at hck
        go_wp2_with fail
        refine hck.mono ?_
        rintro e w6 ⟨rfl, hb6⟩
        have R6 := R5.below hb6
        have hbx6 := R6.box
        have hre6 := R6.res
        clear x0 x1 x2 x3 x4 x5 x6 x7 x8
        by_cases hc : chk m = 0
        · have HR : Hid (rdM s.data.toList = (m, 0)) := (by rw [HF.out]; unfold fin; rw [if_pos hd, if_pos hc] : rdM s.data.toList = (m, 0))
          rw [hc, cdV0]
          have z0 : w6.cell? ⟨w.heap.size, 0, none⟩ = some _ := blk_cell (j := 0) hre6 (by simp)
          have z1 : w6.cell? ⟨w.heap.size, 1, none⟩ = some _ := blk_cell (j := 1) hre6 (by simp)
          have z2 : w6.cell? ⟨w.heap.size, 2, none⟩ = some _ := blk_cell (j := 2) hre6 (by simp)
          have z3 : w6.cell? ⟨w.heap.size, 3, none⟩ = some _ := blk_cell (j := 3) hre6 (by simp)
          have z4 : w6.cell? ⟨w.heap.size, 4, none⟩ = some _ := blk_cell (j := 4) hre6 (by simp)
          have z5 : w6.cell? ⟨w.heap.size, 5, none⟩ = some _ := blk_cell (j := 5) hre6 (by simp)
          have z6 : w6.cell? ⟨w.heap.size, 6, none⟩ = some _ := blk_cell (j := 6) hre6 (by simp)
          have z7 : w6.cell? ⟨w.heap.size, 7, none⟩ = some _ := blk_cell (j := 7) hre6 (by simp)
          have z8 : w6.cell? ⟨w.heap.size, 8, none⟩ = some _ := blk_cell (j := 8) hre6 (by simp)
          have zf : ∀ o, w6.frozen? ⟨w.heap.size, o, none⟩ = false := fun o => by simp [World.frozen?, hre6]
          have zl := lt_of_block hre6
          have x0 : w6.cell? ⟨w.heap.size + 2, 0, none⟩ = some _ := blk_cell (j := 0) hbx6 (by simp)
          have x1 : w6.cell? ⟨w.heap.size + 2, 1, none⟩ = some _ := blk_cell (j := 1) hbx6 (by simp)
          have x2 : w6.cell? ⟨w.heap.size + 2, 2, none⟩ = some _ := blk_cell (j := 2) hbx6 (by simp)
          have x3 : w6.cell? ⟨w.heap.size + 2, 3, none⟩ = some _ := blk_cell (j := 3) hbx6 (by simp)
          have x4 : w6.cell? ⟨w.heap.size + 2, 4, none⟩ = some _ := blk_cell (j := 4) hbx6 (by simp)
          have x5 : w6.cell? ⟨w.heap.size + 2, 5, none⟩ = some _ := blk_cell (j := 5) hbx6 (by simp)
          have x6 : w6.cell? ⟨w.heap.size + 2, 6, none⟩ = some _ := blk_cell (j := 6) hbx6 (by simp)
          have x7 : w6.cell? ⟨w.heap.size + 2, 7, none⟩ = some _ := blk_cell (j := 7) hbx6 (by simp)
          have x8 : w6.cell? ⟨w.heap.size + 2, 8, none⟩ = some _ := blk_cell (j := 8) hbx6 (by simp)
          have xl6 := lt_of_block hbx6
          have HI : Hid _ := R6.rows (by have := rdM_ok s.data.toList (by rw [HR.out]); rw [HR.out] at this; exact this)
          have hbl6 := R6.bel
          obtain ⟨W9, hW9⟩ : ∃ W9, W9 = sets9 w6 w.heap.size (.int .i64 m.kind) (.string m.group) (.bool m.any) (.slice none m.fl.length 0) (.int .i64 m.pub) (.int .i64 m.seq) (.int .i64 m.hops) (.slice none m.vl.length 0) (.string m.pay) := ⟨_, rfl⟩
          have b9 : W9.heap[w.heap.size]? = _ := (congrArg (fun W : World => W.heap[w.heap.size]?) hW9).trans (sets9_box hre6)
          have y0 : W9.cell? ⟨w.heap.size, 0, none⟩ = some (.int .i64 m.kind) := blk_cell (j := 0) b9 (by simp)
          have y1 : W9.cell? ⟨w.heap.size, 1, none⟩ = some (.string m.group) := blk_cell (j := 1) b9 (by simp)
          have y2 : W9.cell? ⟨w.heap.size, 2, none⟩ = some (.bool m.any) := blk_cell (j := 2) b9 (by simp)
          have y3 : W9.cell? ⟨w.heap.size, 3, none⟩ = some (.slice none m.fl.length 0) := blk_cell (j := 3) b9 (by simp)
          have y4 : W9.cell? ⟨w.heap.size, 4, none⟩ = some (.int .i64 m.pub) := blk_cell (j := 4) b9 (by simp)
          have y5 : W9.cell? ⟨w.heap.size, 5, none⟩ = some (.int .i64 m.seq) := blk_cell (j := 5) b9 (by simp)
          have y6 : W9.cell? ⟨w.heap.size, 6, none⟩ = some (.int .i64 m.hops) := blk_cell (j := 6) b9 (by simp)
          have y7 : W9.cell? ⟨w.heap.size, 7, none⟩ = some (.slice none m.vl.length 0) := blk_cell (j := 7) b9 (by simp)
          have y8 : W9.cell? ⟨w.heap.size, 8, none⟩ = some (.string m.pay) := blk_cell (j := 8) b9 (by simp)
          have o9 : ∀ k, k ≠ w.heap.size → W9.heap[k]? = w6.heap[k]? := fun k hk => by rw [hW9]; exact sets9_other hk
          have n9 : w6.heap.size ≤ W9.heap.size := by rw [hW9, sets9_size]; exact Nat.le_refl _
          have e9 : W9.os = w6.os ∧ W9.tape = w6.tape ∧ W9.output = w6.output := by rw [hW9]; exact sets9_rest
          have g9 : (((((((((w6.setCell ⟨w.heap.size, 0, none⟩ (.int .i64 m.kind)).setCell ⟨w.heap.size, 1, none⟩ (.string m.group)).setCell ⟨w.heap.size, 2, none⟩ (.bool m.any)).setCell ⟨w.heap.size, 3, none⟩ (.slice none m.fl.length 0)).setCell ⟨w.heap.size, 4, none⟩ (.int .i64 m.pub)).setCell ⟨w.heap.size, 5, none⟩ (.int .i64 m.seq)).setCell ⟨w.heap.size, 6, none⟩ (.int .i64 m.hops)).setCell ⟨w.heap.size, 7, none⟩ (.slice none m.vl.length 0)).setCell ⟨w.heap.size, 8, none⟩ (.string m.pay)) = W9 := hW9.symm
          have H9 : Hid _ := g9
          clear hW9 g9 b9
          clear R5 R6 hbx5 hbx6 hre5 hre6 hA hb6
          go_wp2
          rw [H9.out]
          refine bodyPost_ret (v := .tuple #[m.val none 0 none 0, .nilIface]) (by simp [Mg.val, results, Tryd.results14, go_sem, y0, y1, y2, y3, y4, y5, y6, y7, y8]) rfl ⟨none, 0, none, 0, _, by rw [HR.out], by rw [HR.out]; exact .inl ⟨rfl, rfl⟩, ?_, ?_, ?_⟩
          · rw [HR.out]; exact InRow.mv HI.out.1 n9 o9
          · rw [HR.out]; exact InRow.mv HI.out.2 n9 o9
          · exact below_sets hbl6 n9 e9.1 e9.2.1 e9.2.2 o9
        · have HR : Hid (rdM s.data.toList = (mg0, chk m)) := (by rw [HF.out]; unfold fin; rw [if_pos hd, if_neg hc] : rdM s.data.toList = (mg0, chk m))
          rw [cdV_ne _ hc]
          have z0 : w6.cell? ⟨w.heap.size, 0, none⟩ = some _ := blk_cell (j := 0) hre6 (by simp)
          have z1 : w6.cell? ⟨w.heap.size, 1, none⟩ = some _ := blk_cell (j := 1) hre6 (by simp)
          have z2 : w6.cell? ⟨w.heap.size, 2, none⟩ = some _ := blk_cell (j := 2) hre6 (by simp)
          have z3 : w6.cell? ⟨w.heap.size, 3, none⟩ = some _ := blk_cell (j := 3) hre6 (by simp)
          have z4 : w6.cell? ⟨w.heap.size, 4, none⟩ = some _ := blk_cell (j := 4) hre6 (by simp)
          have z5 : w6.cell? ⟨w.heap.size, 5, none⟩ = some _ := blk_cell (j := 5) hre6 (by simp)
          have z6 : w6.cell? ⟨w.heap.size, 6, none⟩ = some _ := blk_cell (j := 6) hre6 (by simp)
          have z7 : w6.cell? ⟨w.heap.size, 7, none⟩ = some _ := blk_cell (j := 7) hre6 (by simp)
          have z8 : w6.cell? ⟨w.heap.size, 8, none⟩ = some _ := blk_cell (j := 8) hre6 (by simp)
          have zf : ∀ o, w6.frozen? ⟨w.heap.size, o, none⟩ = false := fun o => by simp [World.frozen?, hre6]
          have zl := lt_of_block hre6
          have hbl6 := R6.bel
          obtain ⟨W9, hW9⟩ : ∃ W9, W9 = sets9 w6 w.heap.size (.int .i64 0) (.string ⟨#[]⟩) (.bool false) (.slice none 0 0) (.int .i64 0) (.int .i64 0) (.int .i64 0) (.slice none 0 0) (.string ⟨#[]⟩) := ⟨_, rfl⟩
          have b9 : W9.heap[w.heap.size]? = _ := (congrArg (fun W : World => W.heap[w.heap.size]?) hW9).trans (sets9_box hre6)
          have y0 : W9.cell? ⟨w.heap.size, 0, none⟩ = some (.int .i64 0) := blk_cell (j := 0) b9 (by simp)
          have y1 : W9.cell? ⟨w.heap.size, 1, none⟩ = some (.string ⟨#[]⟩) := blk_cell (j := 1) b9 (by simp)
          have y2 : W9.cell? ⟨w.heap.size, 2, none⟩ = some (.bool false) := blk_cell (j := 2) b9 (by simp)
          have y3 : W9.cell? ⟨w.heap.size, 3, none⟩ = some (.slice none 0 0) := blk_cell (j := 3) b9 (by simp)
          have y4 : W9.cell? ⟨w.heap.size, 4, none⟩ = some (.int .i64 0) := blk_cell (j := 4) b9 (by simp)
          have y5 : W9.cell? ⟨w.heap.size, 5, none⟩ = some (.int .i64 0) := blk_cell (j := 5) b9 (by simp)
          have y6 : W9.cell? ⟨w.heap.size, 6, none⟩ = some (.int .i64 0) := blk_cell (j := 6) b9 (by simp)
          have y7 : W9.cell? ⟨w.heap.size, 7, none⟩ = some (.slice none 0 0) := blk_cell (j := 7) b9 (by simp)
          have y8 : W9.cell? ⟨w.heap.size, 8, none⟩ = some (.string ⟨#[]⟩) := blk_cell (j := 8) b9 (by simp)
          have o9 : ∀ k, k ≠ w.heap.size → W9.heap[k]? = w6.heap[k]? := fun k hk => by rw [hW9]; exact sets9_other hk
          have n9 : w6.heap.size ≤ W9.heap.size := by rw [hW9, sets9_size]; exact Nat.le_refl _
          have e9 : W9.os = w6.os ∧ W9.tape = w6.tape ∧ W9.output = w6.output := by rw [hW9]; exact sets9_rest
          have g9 : (((((((((w6.setCell ⟨w.heap.size, 0, none⟩ (.int .i64 0)).setCell ⟨w.heap.size, 1, none⟩ (.string ⟨#[]⟩)).setCell ⟨w.heap.size, 2, none⟩ (.bool false)).setCell ⟨w.heap.size, 3, none⟩ (.slice none 0 0)).setCell ⟨w.heap.size, 4, none⟩ (.int .i64 0)).setCell ⟨w.heap.size, 5, none⟩ (.int .i64 0)).setCell ⟨w.heap.size, 6, none⟩ (.int .i64 0)).setCell ⟨w.heap.size, 7, none⟩ (.slice none 0 0)).setCell ⟨w.heap.size, 8, none⟩ (.string ⟨#[]⟩)) = W9 := hW9.symm
          have H9 : Hid _ := g9
          clear hW9 g9 b9
          clear R5 R6 hbx5 hbx6 hre5 hre6 hA hb6
          go_wp2
          rw [H9.out]
          refine bodyPost_ret (v := .tuple #[.agg #[.int .i64 0, .string ⟨#[]⟩, .bool false, .slice none 0 0, .int .i64 0, .int .i64 0, .int .i64 0, .slice none 0 0, .string ⟨#[]⟩], .iface 40 (.int .i64 (chk m : Int))]) (by simp [results, Tryd.results14, go_sem, y0, y1, y2, y3, y4, y5, y6, y7, y8]) rfl ⟨none, 0, none, 0, _, by rw [HR.out]; rfl, by rw [HR.out]; exact .inr (.inl ⟨hc, rfl⟩), ?_, ?_, ?_⟩
          · rw [HR.out]; exact in_nil
          · rw [HR.out]; exact in_nil
          · exact below_sets hbl6 n9 e9.1 e9.2.1 e9.2.2 o9
      · have HR : Hid (rdM s.data.toList = (mg0, dn st4)) := (by rw [HF.out]; unfold fin; rw [if_neg hd] : rdM s.data.toList = (mg0, dn st4))
        have ct := hRd.doneE hd
        go_wp2_with fail
        refine ct.mono ?_
        rintro e w6 ⟨gf, rfl, hF, hgf, hA⟩
        have R6 := R.out.adds hA
        have hre6 := R6.res
        have z0 : w6.cell? ⟨w.heap.size, 0, none⟩ = some _ := blk_cell (j := 0) hre6 (by simp)
        have z1 : w6.cell? ⟨w.heap.size, 1, none⟩ = some _ := blk_cell (j := 1) hre6 (by simp)
        have z2 : w6.cell? ⟨w.heap.size, 2, none⟩ = some _ := blk_cell (j := 2) hre6 (by simp)
        have z3 : w6.cell? ⟨w.heap.size, 3, none⟩ = some _ := blk_cell (j := 3) hre6 (by simp)
        have z4 : w6.cell? ⟨w.heap.size, 4, none⟩ = some _ := blk_cell (j := 4) hre6 (by simp)
        have z5 : w6.cell? ⟨w.heap.size, 5, none⟩ = some _ := blk_cell (j := 5) hre6 (by simp)
        have z6 : w6.cell? ⟨w.heap.size, 6, none⟩ = some _ := blk_cell (j := 6) hre6 (by simp)
        have z7 : w6.cell? ⟨w.heap.size, 7, none⟩ = some _ := blk_cell (j := 7) hre6 (by simp)
        have z8 : w6.cell? ⟨w.heap.size, 8, none⟩ = some _ := blk_cell (j := 8) hre6 (by simp)
        have zf : ∀ o, w6.frozen? ⟨w.heap.size, o, none⟩ = false := fun o => by simp [World.frozen?, hre6]
        have zl := lt_of_block hre6
        have hbl6 := R6.bel
        obtain ⟨W9, hW9⟩ : ∃ W9, W9 = sets9 w6 w.heap.size (.int .i64 0) (.string ⟨#[]⟩) (.bool false) (.slice none 0 0) (.int .i64 0) (.int .i64 0) (.int .i64 0) (.slice none 0 0) (.string ⟨#[]⟩) := ⟨_, rfl⟩
        have b9 : W9.heap[w.heap.size]? = _ := (congrArg (fun W : World => W.heap[w.heap.size]?) hW9).trans (sets9_box hre6)
        have y0 : W9.cell? ⟨w.heap.size, 0, none⟩ = some (.int .i64 0) := blk_cell (j := 0) b9 (by simp)
        have y1 : W9.cell? ⟨w.heap.size, 1, none⟩ = some (.string ⟨#[]⟩) := blk_cell (j := 1) b9 (by simp)
        have y2 : W9.cell? ⟨w.heap.size, 2, none⟩ = some (.bool false) := blk_cell (j := 2) b9 (by simp)
        have y3 : W9.cell? ⟨w.heap.size, 3, none⟩ = some (.slice none 0 0) := blk_cell (j := 3) b9 (by simp)
        have y4 : W9.cell? ⟨w.heap.size, 4, none⟩ = some (.int .i64 0) := blk_cell (j := 4) b9 (by simp)
        have y5 : W9.cell? ⟨w.heap.size, 5, none⟩ = some (.int .i64 0) := blk_cell (j := 5) b9 (by simp)
        have y6 : W9.cell? ⟨w.heap.size, 6, none⟩ = some (.int .i64 0) := blk_cell (j := 6) b9 (by simp)
        have y7 : W9.cell? ⟨w.heap.size, 7, none⟩ = some (.slice none 0 0) := blk_cell (j := 7) b9 (by simp)
        have y8 : W9.cell? ⟨w.heap.size, 8, none⟩ = some (.string ⟨#[]⟩) := blk_cell (j := 8) b9 (by simp)
        have o9 : ∀ k, k ≠ w.heap.size → W9.heap[k]? = w6.heap[k]? := fun k hk => by rw [hW9]; exact sets9_other hk
        have n9 : w6.heap.size ≤ W9.heap.size := by rw [hW9, sets9_size]; exact Nat.le_refl _
        have e9 : W9.os = w6.os ∧ W9.tape = w6.tape ∧ W9.output = w6.output := by rw [hW9]; exact sets9_rest
        have g9 : (((((((((w6.setCell ⟨w.heap.size, 0, none⟩ (.int .i64 0)).setCell ⟨w.heap.size, 1, none⟩ (.string ⟨#[]⟩)).setCell ⟨w.heap.size, 2, none⟩ (.bool false)).setCell ⟨w.heap.size, 3, none⟩ (.slice none 0 0)).setCell ⟨w.heap.size, 4, none⟩ (.int .i64 0)).setCell ⟨w.heap.size, 5, none⟩ (.int .i64 0)).setCell ⟨w.heap.size, 6, none⟩ (.int .i64 0)).setCell ⟨w.heap.size, 7, none⟩ (.slice none 0 0)).setCell ⟨w.heap.size, 8, none⟩ (.string ⟨#[]⟩)) = W9 := hW9.symm
        have H9 : Hid _ := g9
        clear hW9 g9 b9
        clear hre6 hA
        go_wp2
        rw [H9.out]
        refine bodyPost_ret (v := .tuple #[.agg #[.int .i64 0, .string ⟨#[]⟩, .bool false, .slice none 0 0, .int .i64 0, .int .i64 0, .int .i64 0, .slice none 0 0, .string ⟨#[]⟩], .iface 124 (.pointer (some ⟨gf, 0, none⟩))]) (by simp [results, Tryd.results14, go_sem, y0, y1, y2, y3, y4, y5, y6, y7, y8]) rfl ⟨none, 0, none, 0, _, by rw [HR.out]; rfl, by rw [HR.out]; exact .inr (.inr ⟨hd, hF.mv o9 (by omega)⟩), ?_, ?_, ?_⟩
        · rw [HR.out]; exact in_nil
        · rw [HR.out]; exact in_nil
        · exact below_sets hbl6 n9 e9.1 e9.2.1 e9.2.2 o9
    by_cases k34 : k = 3 ∨ k = 4
    · have q1 := beq_f k1
      have n5 := bne_t k5
      have hcase : (k == 3) = true ∨ ((k == 3) = false ∧ (k == 4) = true) := by
        rcases k34 with h | h
        · exact .inl (beq_t h)
        · exact .inr ⟨beq_f (by omega), beq_t h⟩
      have hK : rdK k g st2 = some (⟨k, g, false, [], (pI st2).1, (pI (pI st2).2).1, (pI (pI (pI st2).2).2).1, (pVs (pB 5 (pI (pI (pI st2).2).2).2).1.toNat (pB 5 (pI (pI (pI st2).2).2).2).2).1, (pT 1970 (pVs (pB 5 (pI (pI (pI st2).2).2).2).1.toNat (pB 5 (pI (pI (pI st2).2).2).2).2).2).1⟩, (pT 1970 (pVs (pB 5 (pI (pI (pI st2).2).2).2).1.toNat (pB 5 (pI (pI (pI st2).2).2).2).2).2).2) := by
        unfold rdK; rw [if_neg k1, if_neg k5, if_pos k34]
      have cp := hR5.int (by omega)
      have cs : ∀ W, RdL W (w.heap.size + 1) s (pI st2).2 → _ := fun W hW => RdL.int (w := W) (q := w.heap.size + 1) (s := s) (st := (pI st2).2) hW (by omega)
      have chh : ∀ W, RdL W (w.heap.size + 1) s (pI (pI st2).2).2 → _ := fun W hW => RdL.int (w := W) (q := w.heap.size + 1) (s := s) (st := (pI (pI st2).2).2) hW (by omega)
      have cev : ∀ W, RdL W (w.heap.size + 1) s (pI (pI (pI st2).2).2).2 → _ := fun W hW => revent_any (w.heap.size + 1) s (pI (pI (pI st2).2).2).2 W hW hs2
      have hcn := pB_range 5 (pI (pI (pI st2).2).2).2 (by omega)
      have hlen := pVs_len (pB 5 (pI (pI (pI st2).2).2).2).1.toNat (pB 5 (pI (pI (pI st2).2).2).2).2
      generalize (pT 1970 (pVs (pB 5 (pI (pI (pI st2).2).2).2).1.toNat (pB 5 (pI (pI (pI st2).2).2).2).2).2).1 = pay at *
      generalize (pT 1970 (pVs (pB 5 (pI (pI (pI st2).2).2).2).1.toNat (pB 5 (pI (pI (pI st2).2).2).2).2).2).2 = st4 at *
      generalize (pVs (pB 5 (pI (pI (pI st2).2).2).2).1.toNat (pB 5 (pI (pI (pI st2).2).2).2).2).1 = vs at *
      generalize (pB 5 (pI (pI (pI st2).2).2).2).1 = cnt at *
      generalize (pI (pI (pI st2).2).2).1 = hops at *
      generalize (pI (pI (pI st2).2).2).2 = st5 at *
      generalize (pI (pI st2).2).1 = seq at *
      generalize (pI (pI st2).2).2 = st6 at *
      generalize (pI st2).1 = pub at *
      generalize (pI st2).2 = st3 at *
      generalize hm : (⟨k, g, false, [], pub, seq, hops, vs, pay⟩ : Mg) = m at hK
      have hfin : rdM s.data.toList = fin m st4 := by rw [HM.out, hK]; rfl
      clear hK HM k1 k5 k34
      have key : ∀ (Wn : World), Hid (RdL Wn (w.heap.size + 1) s st6 ∧ Rs w Wn ⟨k, g, false, [], pub, seq, 0, [], ⟨#[]⟩⟩ none 0 none 0) → True := fun _ _ => trivial
      rcases hcase with q3 | ⟨q3, q4⟩
      all_goals
        go_wp2_with fail
        refine cp.mono ?_
        rintro e w2b ⟨rfl, hRb, hSb⟩
        go_wp2_with fail
        refine (cs _ hRb).mono ?_
        rintro e w3b ⟨rfl, hRc, hSc⟩
        have R3 := (R5.same hSb).same hSc
        have bx := R3.box
        have j0 : w3b.cell? ⟨w.heap.size + 2, 0, none⟩ = some (.int .i64 k) := blk_cell (j := 0) bx (by simp)
        have j4 : w3b.cell? ⟨w.heap.size + 2, 4, none⟩ = some (.int .i64 0) := blk_cell (j := 4) bx (by simp)
        have j5 : w3b.cell? ⟨w.heap.size + 2, 5, none⟩ = some (.int .i64 0) := blk_cell (j := 5) bx (by simp)
        have jf : ∀ o, w3b.frozen? ⟨w.heap.size + 2, o, none⟩ = false := fun o => by simp [World.frozen?, bx]
        have jl := lt_of_block bx
        obtain ⟨w4b, hw4⟩ : ∃ W, W = (w3b.setCell ⟨w.heap.size + 2, 4, none⟩ (.int .i64 pub)).setCell ⟨w.heap.size + 2, 5, none⟩ (.int .i64 seq) := ⟨_, rfl⟩
        have bx4 : w4b.heap[w.heap.size + 2]? = some (.cells #[.int .i64 k, .string g, .bool false, .slice none 0 0, .int .i64 pub, .int .i64 seq, .int .i64 0, .slice none 0 0, .string ⟨#[]⟩] 27 (0, 0)) := by
          rw [hw4]; simpa using box_set (i := 5) (box_set (i := 4) bx (.int .i64 pub)) (.int .i64 seq)
        have ob4 : ∀ j, j ≠ w.heap.size + 2 → w4b.heap[j]? = w3b.heap[j]? := fun j hj => by rw [hw4, set_other hj, set_other hj]
        have R4 : Rs w w4b ⟨k, g, false, [], pub, seq, 0, [], ⟨#[]⟩⟩ none 0 none 0 := by
          refine ⟨(ob4 _ (by omega)).trans R3.res, bx4, World.ownsRow_nil _ _ _ _, World.ownsRow_nil _ _ _ _, ?_, by rw [hw4]; simpa [World.setCell] using R3.size, ⟨hgs, by simp, by simp⟩⟩
          have hb3 := R3.bel
          exact ⟨by rw [hw4]; exact hb3.os, by rw [hw4]; exact hb3.tape, by rw [hw4]; exact hb3.output, by rw [hw4]; simpa [World.setCell] using hb3.size, fun j hj => (ob4 j (by omega)).trans (hb3.block j hj)⟩
        have hRd4 : RdL w4b (w.heap.size + 1) s st6 := hRc.at (ob4 _ (by omega))
        have jk : w4b.cell? ⟨w.heap.size + 2, 0, none⟩ = some (.int .i64 k) := blk_cell (j := 0) bx4 (by simp)
        have jl4 := lt_of_block bx4
        go_upto_region 14 with fail
        rw [← hw4]
        clear hw4 bx4 ob4 R3 bx j0 j4 j5 jf jl hRb hSb hRc hSc R5 hR5 cp cs k0 hl5
        go_wp2_with fail
        refine (chh _ hRd4).mono ?_
        rintro e w5b ⟨rfl, hRe, hSe⟩
        have R5b := R4.same hSe
        go_wp2_with fail
        refine (cev _ hRe).mono ?_
        rintro e w6b ⟨v, rfl, hrow, hRf, hAf⟩
        have R6b := R5b.adds hAf
        obtain ⟨va, vc, hv⟩ := own_shape hrow
        subst hv
        have bx := R6b.box
        have j6 : w6b.cell? ⟨w.heap.size + 2, 6, none⟩ = some (.int .i64 0) := blk_cell (j := 6) bx (by simp)
        have j7 : w6b.cell? ⟨w.heap.size + 2, 7, none⟩ = some (.slice none 0 0) := blk_cell (j := 7) bx (by simp)
        have j8 : w6b.cell? ⟨w.heap.size + 2, 8, none⟩ = some (.string ⟨#[]⟩) := blk_cell (j := 8) bx (by simp)
        have jf : ∀ o, w6b.frozen? ⟨w.heap.size + 2, o, none⟩ = false := fun o => by simp [World.frozen?, bx]
        have jl := lt_of_block bx
        obtain ⟨w7b, hw7⟩ : ∃ W, W = ((w6b.setCell ⟨w.heap.size + 2, 6, none⟩ (.int .i64 hops)).setCell ⟨w.heap.size + 2, 7, none⟩ (.slice va cnt.toNat vc)).setCell ⟨w.heap.size + 2, 8, none⟩ (.string pay) := ⟨_, rfl⟩
        have bx7 : w7b.heap[w.heap.size + 2]? = some (.cells #[.int .i64 k, .string g, .bool false, .slice none 0 0, .int .i64 pub, .int .i64 seq, .int .i64 hops, .slice va cnt.toNat vc, .string pay] 27 (0, 0)) := by
          rw [hw7]; simpa using box_set (i := 8) (box_set (i := 7) (box_set (i := 6) bx (.int .i64 hops)) (.slice va cnt.toNat vc)) (.string pay)
        have ob7 : ∀ j, j ≠ w.heap.size + 2 → w7b.heap[j]? = w6b.heap[j]? := fun j hj => by rw [hw7, set_other hj, set_other hj, set_other hj]
        have R : Hid (Rs w w7b m none 0 va vc) := by
          show Rs w w7b m none 0 va vc
          rw [← hm]
          have hb6 := R6b.bel
          refine ⟨(ob7 _ (by omega)).trans R6b.res, ?_, World.ownsRow_nil _ _ _ _, ?_, ?_, by rw [hw7]; simpa [World.setCell] using R6b.size, ⟨hgs, by show vs.length ≤ _; omega, by simp⟩⟩
          · show w7b.heap[w.heap.size + 2]? = some (.cells #[.int .i64 k, .string g, .bool false, .slice none 0 0, .int .i64 pub, .int .i64 seq, .int .i64 hops, .slice va vs.length vc, .string pay] 27 (0, 0))
            rw [hlen]; exact bx7
          · show w7b.ownsRow _ _ 2 (.slice va vs.length vc) vs.length _
            rw [hlen]
            have hsz5 := R5b.size
            exact row_mv (own_base hrow (by omega)) (fun j hj => ob7 j (by have := (hrow.lt j hj).1; omega))
          · exact ⟨by rw [hw7]; exact hb6.os, by rw [hw7]; exact hb6.tape, by rw [hw7]; exact hb6.output, by rw [hw7]; simpa [World.setCell] using hb6.size, fun j hj => (ob7 j (by omega)).trans (hb6.block j hj)⟩
        have hRd : RdL w7b (w.heap.size + 1) s st4 := hRf.at (ob7 _ (by omega))
        go_upto_region 16 with fail
        rw [← hw7]
        clear hw7 bx7 ob7 bx j6 j7 j8 jf jl hRf hAf hrow R6b R5b hRe hSe R4 hRd4 jk jl4 chh cev hm hlen hcn key
        have HF : Hid (rdM s.data.toList = fin m st4) := hfin
        clear hfin
        have hbx := R.out.box
        have hre := R.out.res
        have hsz := R.out.size
        have hbel := R.out.bel
        by_cases hd : dn st4 = 0
        · have ct := hRd.done0 hd
          go_wp2_with fail
          refine ct.mono ?_
          rintro e w5 ⟨rfl, hA⟩
          have R5 := R.out.adds hA
          have hbx5 := R5.box
          have hre5 := R5.res
          have x0 : w5.cell? ⟨w.heap.size + 2, 0, none⟩ = some _ := blk_cell (j := 0) hbx5 (by simp)
          have x1 : w5.cell? ⟨w.heap.size + 2, 1, none⟩ = some _ := blk_cell (j := 1) hbx5 (by simp)
          have x2 : w5.cell? ⟨w.heap.size + 2, 2, none⟩ = some _ := blk_cell (j := 2) hbx5 (by simp)
          have x3 : w5.cell? ⟨w.heap.size + 2, 3, none⟩ = some _ := blk_cell (j := 3) hbx5 (by simp)
          have x4 : w5.cell? ⟨w.heap.size + 2, 4, none⟩ = some _ := blk_cell (j := 4) hbx5 (by simp)
          have x5 : w5.cell? ⟨w.heap.size + 2, 5, none⟩ = some _ := blk_cell (j := 5) hbx5 (by simp)
          have x6 : w5.cell? ⟨w.heap.size + 2, 6, none⟩ = some _ := blk_cell (j := 6) hbx5 (by simp)
          have x7 : w5.cell? ⟨w.heap.size + 2, 7, none⟩ = some _ := blk_cell (j := 7) hbx5 (by simp)
          have x8 : w5.cell? ⟨w.heap.size + 2, 8, none⟩ = some _ := blk_cell (j := 8) hbx5 (by simp)
          have xl := lt_of_block hbx5
          have hck := mcheck_any m none 0 va vc w5 R5.small.1 R5.small.2.1 R5.small.2.2
          unfold Mg.val at hck
          go_wp2_with fail
          refine hck.mono ?_
          rintro e w6 ⟨rfl, hb6⟩
          have R6 := R5.below hb6
          have hbx6 := R6.box
          have hre6 := R6.res
          clear x0 x1 x2 x3 x4 x5 x6 x7 x8
          by_cases hc : chk m = 0
          · have HR : Hid (rdM s.data.toList = (m, 0)) := (by rw [HF.out]; unfold fin; rw [if_pos hd, if_pos hc] : rdM s.data.toList = (m, 0))
            rw [hc, cdV0]
            have z0 : w6.cell? ⟨w.heap.size, 0, none⟩ = some _ := blk_cell (j := 0) hre6 (by simp)
            have z1 : w6.cell? ⟨w.heap.size, 1, none⟩ = some _ := blk_cell (j := 1) hre6 (by simp)
            have z2 : w6.cell? ⟨w.heap.size, 2, none⟩ = some _ := blk_cell (j := 2) hre6 (by simp)
            have z3 : w6.cell? ⟨w.heap.size, 3, none⟩ = some _ := blk_cell (j := 3) hre6 (by simp)
            have z4 : w6.cell? ⟨w.heap.size, 4, none⟩ = some _ := blk_cell (j := 4) hre6 (by simp)
            have z5 : w6.cell? ⟨w.heap.size, 5, none⟩ = some _ := blk_cell (j := 5) hre6 (by simp)
            have z6 : w6.cell? ⟨w.heap.size, 6, none⟩ = some _ := blk_cell (j := 6) hre6 (by simp)
            have z7 : w6.cell? ⟨w.heap.size, 7, none⟩ = some _ := blk_cell (j := 7) hre6 (by simp)
            have z8 : w6.cell? ⟨w.heap.size, 8, none⟩ = some _ := blk_cell (j := 8) hre6 (by simp)
            have zf : ∀ o, w6.frozen? ⟨w.heap.size, o, none⟩ = false := fun o => by simp [World.frozen?, hre6]
            have zl := lt_of_block hre6
            have x0 : w6.cell? ⟨w.heap.size + 2, 0, none⟩ = some _ := blk_cell (j := 0) hbx6 (by simp)
            have x1 : w6.cell? ⟨w.heap.size + 2, 1, none⟩ = some _ := blk_cell (j := 1) hbx6 (by simp)
            have x2 : w6.cell? ⟨w.heap.size + 2, 2, none⟩ = some _ := blk_cell (j := 2) hbx6 (by simp)
            have x3 : w6.cell? ⟨w.heap.size + 2, 3, none⟩ = some _ := blk_cell (j := 3) hbx6 (by simp)
            have x4 : w6.cell? ⟨w.heap.size + 2, 4, none⟩ = some _ := blk_cell (j := 4) hbx6 (by simp)
            have x5 : w6.cell? ⟨w.heap.size + 2, 5, none⟩ = some _ := blk_cell (j := 5) hbx6 (by simp)
            have x6 : w6.cell? ⟨w.heap.size + 2, 6, none⟩ = some _ := blk_cell (j := 6) hbx6 (by simp)
            have x7 : w6.cell? ⟨w.heap.size + 2, 7, none⟩ = some _ := blk_cell (j := 7) hbx6 (by simp)
            have x8 : w6.cell? ⟨w.heap.size + 2, 8, none⟩ = some _ := blk_cell (j := 8) hbx6 (by simp)
            have xl6 := lt_of_block hbx6
            have HI : Hid _ := R6.rows (by have := rdM_ok s.data.toList (by rw [HR.out]); rw [HR.out] at this; exact this)
            have hbl6 := R6.bel
            obtain ⟨W9, hW9⟩ : ∃ W9, W9 = sets9 w6 w.heap.size (.int .i64 m.kind) (.string m.group) (.bool m.any) (.slice none m.fl.length 0) (.int .i64 m.pub) (.int .i64 m.seq) (.int .i64 m.hops) (.slice va m.vl.length vc) (.string m.pay) := ⟨_, rfl⟩
            have b9 : W9.heap[w.heap.size]? = _ := (congrArg (fun W : World => W.heap[w.heap.size]?) hW9).trans (sets9_box hre6)
            have y0 : W9.cell? ⟨w.heap.size, 0, none⟩ = some (.int .i64 m.kind) := blk_cell (j := 0) b9 (by simp)
            have y1 : W9.cell? ⟨w.heap.size, 1, none⟩ = some (.string m.group) := blk_cell (j := 1) b9 (by simp)
            have y2 : W9.cell? ⟨w.heap.size, 2, none⟩ = some (.bool m.any) := blk_cell (j := 2) b9 (by simp)
            have y3 : W9.cell? ⟨w.heap.size, 3, none⟩ = some (.slice none m.fl.length 0) := blk_cell (j := 3) b9 (by simp)
            have y4 : W9.cell? ⟨w.heap.size, 4, none⟩ = some (.int .i64 m.pub) := blk_cell (j := 4) b9 (by simp)
            have y5 : W9.cell? ⟨w.heap.size, 5, none⟩ = some (.int .i64 m.seq) := blk_cell (j := 5) b9 (by simp)
            have y6 : W9.cell? ⟨w.heap.size, 6, none⟩ = some (.int .i64 m.hops) := blk_cell (j := 6) b9 (by simp)
            have y7 : W9.cell? ⟨w.heap.size, 7, none⟩ = some (.slice va m.vl.length vc) := blk_cell (j := 7) b9 (by simp)
            have y8 : W9.cell? ⟨w.heap.size, 8, none⟩ = some (.string m.pay) := blk_cell (j := 8) b9 (by simp)
            have o9 : ∀ k, k ≠ w.heap.size → W9.heap[k]? = w6.heap[k]? := fun k hk => by rw [hW9]; exact sets9_other hk
            have n9 : w6.heap.size ≤ W9.heap.size := by rw [hW9, sets9_size]; exact Nat.le_refl _
            have e9 : W9.os = w6.os ∧ W9.tape = w6.tape ∧ W9.output = w6.output := by rw [hW9]; exact sets9_rest
            have g9 : (((((((((w6.setCell ⟨w.heap.size, 0, none⟩ (.int .i64 m.kind)).setCell ⟨w.heap.size, 1, none⟩ (.string m.group)).setCell ⟨w.heap.size, 2, none⟩ (.bool m.any)).setCell ⟨w.heap.size, 3, none⟩ (.slice none m.fl.length 0)).setCell ⟨w.heap.size, 4, none⟩ (.int .i64 m.pub)).setCell ⟨w.heap.size, 5, none⟩ (.int .i64 m.seq)).setCell ⟨w.heap.size, 6, none⟩ (.int .i64 m.hops)).setCell ⟨w.heap.size, 7, none⟩ (.slice va m.vl.length vc)).setCell ⟨w.heap.size, 8, none⟩ (.string m.pay)) = W9 := hW9.symm
            have H9 : Hid _ := g9
            clear hW9 g9 b9
            clear R5 R6 hbx5 hbx6 hre5 hre6 hA hb6
            go_wp2
            rw [H9.out]
            refine bodyPost_ret (v := .tuple #[m.val none 0 va vc, .nilIface]) (by simp [Mg.val, results, Tryd.results14, go_sem, y0, y1, y2, y3, y4, y5, y6, y7, y8]) rfl ⟨none, 0, va, vc, _, by rw [HR.out], by rw [HR.out]; exact .inl ⟨rfl, rfl⟩, ?_, ?_, ?_⟩
            · rw [HR.out]; exact InRow.mv HI.out.1 n9 o9
            · rw [HR.out]; exact InRow.mv HI.out.2 n9 o9
            · exact below_sets hbl6 n9 e9.1 e9.2.1 e9.2.2 o9
          · have HR : Hid (rdM s.data.toList = (mg0, chk m)) := (by rw [HF.out]; unfold fin; rw [if_pos hd, if_neg hc] : rdM s.data.toList = (mg0, chk m))
            rw [cdV_ne _ hc]
            have z0 : w6.cell? ⟨w.heap.size, 0, none⟩ = some _ := blk_cell (j := 0) hre6 (by simp)
            have z1 : w6.cell? ⟨w.heap.size, 1, none⟩ = some _ := blk_cell (j := 1) hre6 (by simp)
            have z2 : w6.cell? ⟨w.heap.size, 2, none⟩ = some _ := blk_cell (j := 2) hre6 (by simp)
            have z3 : w6.cell? ⟨w.heap.size, 3, none⟩ = some _ := blk_cell (j := 3) hre6 (by simp)
            have z4 : w6.cell? ⟨w.heap.size, 4, none⟩ = some _ := blk_cell (j := 4) hre6 (by simp)
            have z5 : w6.cell? ⟨w.heap.size, 5, none⟩ = some _ := blk_cell (j := 5) hre6 (by simp)
            have z6 : w6.cell? ⟨w.heap.size, 6, none⟩ = some _ := blk_cell (j := 6) hre6 (by simp)
            have z7 : w6.cell? ⟨w.heap.size, 7, none⟩ = some _ := blk_cell (j := 7) hre6 (by simp)
            have z8 : w6.cell? ⟨w.heap.size, 8, none⟩ = some _ := blk_cell (j := 8) hre6 (by simp)
            have zf : ∀ o, w6.frozen? ⟨w.heap.size, o, none⟩ = false := fun o => by simp [World.frozen?, hre6]
            have zl := lt_of_block hre6
            have hbl6 := R6.bel
            obtain ⟨W9, hW9⟩ : ∃ W9, W9 = sets9 w6 w.heap.size (.int .i64 0) (.string ⟨#[]⟩) (.bool false) (.slice none 0 0) (.int .i64 0) (.int .i64 0) (.int .i64 0) (.slice none 0 0) (.string ⟨#[]⟩) := ⟨_, rfl⟩
            have b9 : W9.heap[w.heap.size]? = _ := (congrArg (fun W : World => W.heap[w.heap.size]?) hW9).trans (sets9_box hre6)
            have y0 : W9.cell? ⟨w.heap.size, 0, none⟩ = some (.int .i64 0) := blk_cell (j := 0) b9 (by simp)
            have y1 : W9.cell? ⟨w.heap.size, 1, none⟩ = some (.string ⟨#[]⟩) := blk_cell (j := 1) b9 (by simp)
            have y2 : W9.cell? ⟨w.heap.size, 2, none⟩ = some (.bool false) := blk_cell (j := 2) b9 (by simp)
            have y3 : W9.cell? ⟨w.heap.size, 3, none⟩ = some (.slice none 0 0) := blk_cell (j := 3) b9 (by simp)
            have y4 : W9.cell? ⟨w.heap.size, 4, none⟩ = some (.int .i64 0) := blk_cell (j := 4) b9 (by simp)
            have y5 : W9.cell? ⟨w.heap.size, 5, none⟩ = some (.int .i64 0) := blk_cell (j := 5) b9 (by simp)
            have y6 : W9.cell? ⟨w.heap.size, 6, none⟩ = some (.int .i64 0) := blk_cell (j := 6) b9 (by simp)
            have y7 : W9.cell? ⟨w.heap.size, 7, none⟩ = some (.slice none 0 0) := blk_cell (j := 7) b9 (by simp)
            have y8 : W9.cell? ⟨w.heap.size, 8, none⟩ = some (.string ⟨#[]⟩) := blk_cell (j := 8) b9 (by simp)
            have o9 : ∀ k, k ≠ w.heap.size → W9.heap[k]? = w6.heap[k]? := fun k hk => by rw [hW9]; exact sets9_other hk
            have n9 : w6.heap.size ≤ W9.heap.size := by rw [hW9, sets9_size]; exact Nat.le_refl _
            have e9 : W9.os = w6.os ∧ W9.tape = w6.tape ∧ W9.output = w6.output := by rw [hW9]; exact sets9_rest
            have g9 : (((((((((w6.setCell ⟨w.heap.size, 0, none⟩ (.int .i64 0)).setCell ⟨w.heap.size, 1, none⟩ (.string ⟨#[]⟩)).setCell ⟨w.heap.size, 2, none⟩ (.bool false)).setCell ⟨w.heap.size, 3, none⟩ (.slice none 0 0)).setCell ⟨w.heap.size, 4, none⟩ (.int .i64 0)).setCell ⟨w.heap.size, 5, none⟩ (.int .i64 0)).setCell ⟨w.heap.size, 6, none⟩ (.int .i64 0)).setCell ⟨w.heap.size, 7, none⟩ (.slice none 0 0)).setCell ⟨w.heap.size, 8, none⟩ (.string ⟨#[]⟩)) = W9 := hW9.symm
            have H9 : Hid _ := g9
            clear hW9 g9 b9
            clear R5 R6 hbx5 hbx6 hre5 hre6 hA hb6
            go_wp2
            rw [H9.out]
            refine bodyPost_ret (v := .tuple #[.agg #[.int .i64 0, .string ⟨#[]⟩, .bool false, .slice none 0 0, .int .i64 0, .int .i64 0, .int .i64 0, .slice none 0 0, .string ⟨#[]⟩], .iface 40 (.int .i64 (chk m : Int))]) (by simp [results, Tryd.results14, go_sem, y0, y1, y2, y3, y4, y5, y6, y7, y8]) rfl ⟨none, 0, none, 0, _, by rw [HR.out]; rfl, by rw [HR.out]; exact .inr (.inl ⟨hc, rfl⟩), ?_, ?_, ?_⟩
            · rw [HR.out]; exact in_nil
            · rw [HR.out]; exact in_nil
            · exact below_sets hbl6 n9 e9.1 e9.2.1 e9.2.2 o9
        · have HR : Hid (rdM s.data.toList = (mg0, dn st4)) := (by rw [HF.out]; unfold fin; rw [if_neg hd] : rdM s.data.toList = (mg0, dn st4))
          have ct := hRd.doneE hd
          go_wp2_with fail
          refine ct.mono ?_
          rintro e w6 ⟨gf, rfl, hF, hgf, hA⟩
          have R6 := R.out.adds hA
          have hre6 := R6.res
          have z0 : w6.cell? ⟨w.heap.size, 0, none⟩ = some _ := blk_cell (j := 0) hre6 (by simp)
          have z1 : w6.cell? ⟨w.heap.size, 1, none⟩ = some _ := blk_cell (j := 1) hre6 (by simp)
          have z2 : w6.cell? ⟨w.heap.size, 2, none⟩ = some _ := blk_cell (j := 2) hre6 (by simp)
          have z3 : w6.cell? ⟨w.heap.size, 3, none⟩ = some _ := blk_cell (j := 3) hre6 (by simp)
          have z4 : w6.cell? ⟨w.heap.size, 4, none⟩ = some _ := blk_cell (j := 4) hre6 (by simp)
          have z5 : w6.cell? ⟨w.heap.size, 5, none⟩ = some _ := blk_cell (j := 5) hre6 (by simp)
          have z6 : w6.cell? ⟨w.heap.size, 6, none⟩ = some _ := blk_cell (j := 6) hre6 (by simp)
          have z7 : w6.cell? ⟨w.heap.size, 7, none⟩ = some _ := blk_cell (j := 7) hre6 (by simp)
          have z8 : w6.cell? ⟨w.heap.size, 8, none⟩ = some _ := blk_cell (j := 8) hre6 (by simp)
          have zf : ∀ o, w6.frozen? ⟨w.heap.size, o, none⟩ = false := fun o => by simp [World.frozen?, hre6]
          have zl := lt_of_block hre6
          have hbl6 := R6.bel
          obtain ⟨W9, hW9⟩ : ∃ W9, W9 = sets9 w6 w.heap.size (.int .i64 0) (.string ⟨#[]⟩) (.bool false) (.slice none 0 0) (.int .i64 0) (.int .i64 0) (.int .i64 0) (.slice none 0 0) (.string ⟨#[]⟩) := ⟨_, rfl⟩
          have b9 : W9.heap[w.heap.size]? = _ := (congrArg (fun W : World => W.heap[w.heap.size]?) hW9).trans (sets9_box hre6)
          have y0 : W9.cell? ⟨w.heap.size, 0, none⟩ = some (.int .i64 0) := blk_cell (j := 0) b9 (by simp)
          have y1 : W9.cell? ⟨w.heap.size, 1, none⟩ = some (.string ⟨#[]⟩) := blk_cell (j := 1) b9 (by simp)
          have y2 : W9.cell? ⟨w.heap.size, 2, none⟩ = some (.bool false) := blk_cell (j := 2) b9 (by simp)
          have y3 : W9.cell? ⟨w.heap.size, 3, none⟩ = some (.slice none 0 0) := blk_cell (j := 3) b9 (by simp)
          have y4 : W9.cell? ⟨w.heap.size, 4, none⟩ = some (.int .i64 0) := blk_cell (j := 4) b9 (by simp)
          have y5 : W9.cell? ⟨w.heap.size, 5, none⟩ = some (.int .i64 0) := blk_cell (j := 5) b9 (by simp)
          have y6 : W9.cell? ⟨w.heap.size, 6, none⟩ = some (.int .i64 0) := blk_cell (j := 6) b9 (by simp)
          have y7 : W9.cell? ⟨w.heap.size, 7, none⟩ = some (.slice none 0 0) := blk_cell (j := 7) b9 (by simp)
          have y8 : W9.cell? ⟨w.heap.size, 8, none⟩ = some (.string ⟨#[]⟩) := blk_cell (j := 8) b9 (by simp)
          have o9 : ∀ k, k ≠ w.heap.size → W9.heap[k]? = w6.heap[k]? := fun k hk => by rw [hW9]; exact sets9_other hk
          have n9 : w6.heap.size ≤ W9.heap.size := by rw [hW9, sets9_size]; exact Nat.le_refl _
          have e9 : W9.os = w6.os ∧ W9.tape = w6.tape ∧ W9.output = w6.output := by rw [hW9]; exact sets9_rest
          have g9 : (((((((((w6.setCell ⟨w.heap.size, 0, none⟩ (.int .i64 0)).setCell ⟨w.heap.size, 1, none⟩ (.string ⟨#[]⟩)).setCell ⟨w.heap.size, 2, none⟩ (.bool false)).setCell ⟨w.heap.size, 3, none⟩ (.slice none 0 0)).setCell ⟨w.heap.size, 4, none⟩ (.int .i64 0)).setCell ⟨w.heap.size, 5, none⟩ (.int .i64 0)).setCell ⟨w.heap.size, 6, none⟩ (.int .i64 0)).setCell ⟨w.heap.size, 7, none⟩ (.slice none 0 0)).setCell ⟨w.heap.size, 8, none⟩ (.string ⟨#[]⟩)) = W9 := hW9.symm
          have H9 : Hid _ := g9
          clear hW9 g9 b9
          clear hre6 hA
          go_wp2
          rw [H9.out]
          refine bodyPost_ret (v := .tuple #[.agg #[.int .i64 0, .string ⟨#[]⟩, .bool false, .slice none 0 0, .int .i64 0, .int .i64 0, .int .i64 0, .slice none 0 0, .string ⟨#[]⟩], .iface 124 (.pointer (some ⟨gf, 0, none⟩))]) (by simp [results, Tryd.results14, go_sem, y0, y1, y2, y3, y4, y5, y6, y7, y8]) rfl ⟨none, 0, none, 0, _, by rw [HR.out]; rfl, by rw [HR.out]; exact .inr (.inr ⟨hd, hF.mv o9 (by omega)⟩), ?_, ?_, ?_⟩
          · rw [HR.out]; exact in_nil
          · rw [HR.out]; exact in_nil
          · exact below_sets hbl6 n9 e9.1 e9.2.1 e9.2.2 o9
    · have q1 := beq_f k1
      have q3 := beq_f (show ¬ k = 3 by omega)
      have q4 := beq_f (show ¬ k = 4 by omega)
      have q5 := beq_f k5
      obtain ⟨m, hm⟩ : ∃ m : Mg, m = ⟨k, g, false, [], 0, 0, 0, [], ⟨#[]⟩⟩ := ⟨_, rfl⟩
      have hK : rdK k g st2 = some (m, st2) := by unfold rdK; rw [if_neg k1, if_neg k5, if_neg k34, hm]; rfl
      have hfin : rdM s.data.toList = fin m st2 := by rw [HM.out, hK]; rfl
      have R : Hid (Rs w W5 m none 0 none 0) := by rw [hm]; exact R5
      have hRd : RdL W5 (w.heap.size + 1) s st2 := hR5
      clear R5 hR5 HM hK hm k1 k5 k34
      have HF : Hid (rdM s.data.toList = fin m st2) := hfin
      clear hfin
      have hbx := R.out.box
      have hre := R.out.res
      have hsz := R.out.size
      have hbel := R.out.bel
      by_cases hd : dn st2 = 0
      · have ct := hRd.done0 hd
        go_wp2_with fail
        refine ct.mono ?_
        rintro e w5 ⟨rfl, hA⟩
        have R5 := R.out.adds hA
        have hbx5 := R5.box
        have hre5 := R5.res
        have x0 : w5.cell? ⟨w.heap.size + 2, 0, none⟩ = some _ := blk_cell (j := 0) hbx5 (by simp)
        have x1 : w5.cell? ⟨w.heap.size + 2, 1, none⟩ = some _ := blk_cell (j := 1) hbx5 (by simp)
        have x2 : w5.cell? ⟨w.heap.size + 2, 2, none⟩ = some _ := blk_cell (j := 2) hbx5 (by simp)
        have x3 : w5.cell? ⟨w.heap.size + 2, 3, none⟩ = some _ := blk_cell (j := 3) hbx5 (by simp)
        have x4 : w5.cell? ⟨w.heap.size + 2, 4, none⟩ = some _ := blk_cell (j := 4) hbx5 (by simp)
        have x5 : w5.cell? ⟨w.heap.size + 2, 5, none⟩ = some _ := blk_cell (j := 5) hbx5 (by simp)
        have x6 : w5.cell? ⟨w.heap.size + 2, 6, none⟩ = some _ := blk_cell (j := 6) hbx5 (by simp)
        have x7 : w5.cell? ⟨w.heap.size + 2, 7, none⟩ = some _ := blk_cell (j := 7) hbx5 (by simp)
        have x8 : w5.cell? ⟨w.heap.size + 2, 8, none⟩ = some _ := blk_cell (j := 8) hbx5 (by simp)
        have xl := lt_of_block hbx5
        have hck := mcheck_any m none 0 none 0 w5 R5.small.1 R5.small.2.1 R5.small.2.2
        unfold Mg.val at hck
        go_wp2_with fail
        refine hck.mono ?_
        rintro e w6 ⟨rfl, hb6⟩
        have R6 := R5.below hb6
        have hbx6 := R6.box
        have hre6 := R6.res
        clear x0 x1 x2 x3 x4 x5 x6 x7 x8
        by_cases hc : chk m = 0
        · have HR : Hid (rdM s.data.toList = (m, 0)) := (by rw [HF.out]; unfold fin; rw [if_pos hd, if_pos hc] : rdM s.data.toList = (m, 0))
          rw [hc, cdV0]
          have z0 : w6.cell? ⟨w.heap.size, 0, none⟩ = some _ := blk_cell (j := 0) hre6 (by simp)
          have z1 : w6.cell? ⟨w.heap.size, 1, none⟩ = some _ := blk_cell (j := 1) hre6 (by simp)
          have z2 : w6.cell? ⟨w.heap.size, 2, none⟩ = some _ := blk_cell (j := 2) hre6 (by simp)
          have z3 : w6.cell? ⟨w.heap.size, 3, none⟩ = some _ := blk_cell (j := 3) hre6 (by simp)
          have z4 : w6.cell? ⟨w.heap.size, 4, none⟩ = some _ := blk_cell (j := 4) hre6 (by simp)
          have z5 : w6.cell? ⟨w.heap.size, 5, none⟩ = some _ := blk_cell (j := 5) hre6 (by simp)
          have z6 : w6.cell? ⟨w.heap.size, 6, none⟩ = some _ := blk_cell (j := 6) hre6 (by simp)
          have z7 : w6.cell? ⟨w.heap.size, 7, none⟩ = some _ := blk_cell (j := 7) hre6 (by simp)
          have z8 : w6.cell? ⟨w.heap.size, 8, none⟩ = some _ := blk_cell (j := 8) hre6 (by simp)
          have zf : ∀ o, w6.frozen? ⟨w.heap.size, o, none⟩ = false := fun o => by simp [World.frozen?, hre6]
          have zl := lt_of_block hre6
          have x0 : w6.cell? ⟨w.heap.size + 2, 0, none⟩ = some _ := blk_cell (j := 0) hbx6 (by simp)
          have x1 : w6.cell? ⟨w.heap.size + 2, 1, none⟩ = some _ := blk_cell (j := 1) hbx6 (by simp)
          have x2 : w6.cell? ⟨w.heap.size + 2, 2, none⟩ = some _ := blk_cell (j := 2) hbx6 (by simp)
          have x3 : w6.cell? ⟨w.heap.size + 2, 3, none⟩ = some _ := blk_cell (j := 3) hbx6 (by simp)
          have x4 : w6.cell? ⟨w.heap.size + 2, 4, none⟩ = some _ := blk_cell (j := 4) hbx6 (by simp)
          have x5 : w6.cell? ⟨w.heap.size + 2, 5, none⟩ = some _ := blk_cell (j := 5) hbx6 (by simp)
          have x6 : w6.cell? ⟨w.heap.size + 2, 6, none⟩ = some _ := blk_cell (j := 6) hbx6 (by simp)
          have x7 : w6.cell? ⟨w.heap.size + 2, 7, none⟩ = some _ := blk_cell (j := 7) hbx6 (by simp)
          have x8 : w6.cell? ⟨w.heap.size + 2, 8, none⟩ = some _ := blk_cell (j := 8) hbx6 (by simp)
          have xl6 := lt_of_block hbx6
          have HI : Hid _ := R6.rows (by have := rdM_ok s.data.toList (by rw [HR.out]); rw [HR.out] at this; exact this)
          have hbl6 := R6.bel
          obtain ⟨W9, hW9⟩ : ∃ W9, W9 = sets9 w6 w.heap.size (.int .i64 m.kind) (.string m.group) (.bool m.any) (.slice none m.fl.length 0) (.int .i64 m.pub) (.int .i64 m.seq) (.int .i64 m.hops) (.slice none m.vl.length 0) (.string m.pay) := ⟨_, rfl⟩
          have b9 : W9.heap[w.heap.size]? = _ := (congrArg (fun W : World => W.heap[w.heap.size]?) hW9).trans (sets9_box hre6)
          have y0 : W9.cell? ⟨w.heap.size, 0, none⟩ = some (.int .i64 m.kind) := blk_cell (j := 0) b9 (by simp)
          have y1 : W9.cell? ⟨w.heap.size, 1, none⟩ = some (.string m.group) := blk_cell (j := 1) b9 (by simp)
          have y2 : W9.cell? ⟨w.heap.size, 2, none⟩ = some (.bool m.any) := blk_cell (j := 2) b9 (by simp)
          have y3 : W9.cell? ⟨w.heap.size, 3, none⟩ = some (.slice none m.fl.length 0) := blk_cell (j := 3) b9 (by simp)
          have y4 : W9.cell? ⟨w.heap.size, 4, none⟩ = some (.int .i64 m.pub) := blk_cell (j := 4) b9 (by simp)
          have y5 : W9.cell? ⟨w.heap.size, 5, none⟩ = some (.int .i64 m.seq) := blk_cell (j := 5) b9 (by simp)
          have y6 : W9.cell? ⟨w.heap.size, 6, none⟩ = some (.int .i64 m.hops) := blk_cell (j := 6) b9 (by simp)
          have y7 : W9.cell? ⟨w.heap.size, 7, none⟩ = some (.slice none m.vl.length 0) := blk_cell (j := 7) b9 (by simp)
          have y8 : W9.cell? ⟨w.heap.size, 8, none⟩ = some (.string m.pay) := blk_cell (j := 8) b9 (by simp)
          have o9 : ∀ k, k ≠ w.heap.size → W9.heap[k]? = w6.heap[k]? := fun k hk => by rw [hW9]; exact sets9_other hk
          have n9 : w6.heap.size ≤ W9.heap.size := by rw [hW9, sets9_size]; exact Nat.le_refl _
          have e9 : W9.os = w6.os ∧ W9.tape = w6.tape ∧ W9.output = w6.output := by rw [hW9]; exact sets9_rest
          have g9 : (((((((((w6.setCell ⟨w.heap.size, 0, none⟩ (.int .i64 m.kind)).setCell ⟨w.heap.size, 1, none⟩ (.string m.group)).setCell ⟨w.heap.size, 2, none⟩ (.bool m.any)).setCell ⟨w.heap.size, 3, none⟩ (.slice none m.fl.length 0)).setCell ⟨w.heap.size, 4, none⟩ (.int .i64 m.pub)).setCell ⟨w.heap.size, 5, none⟩ (.int .i64 m.seq)).setCell ⟨w.heap.size, 6, none⟩ (.int .i64 m.hops)).setCell ⟨w.heap.size, 7, none⟩ (.slice none m.vl.length 0)).setCell ⟨w.heap.size, 8, none⟩ (.string m.pay)) = W9 := hW9.symm
          have H9 : Hid _ := g9
          clear hW9 g9 b9
          clear R5 R6 hbx5 hbx6 hre5 hre6 hA hb6
          go_wp2
          rw [H9.out]
          refine bodyPost_ret (v := .tuple #[m.val none 0 none 0, .nilIface]) (by simp [Mg.val, results, Tryd.results14, go_sem, y0, y1, y2, y3, y4, y5, y6, y7, y8]) rfl ⟨none, 0, none, 0, _, by rw [HR.out], by rw [HR.out]; exact .inl ⟨rfl, rfl⟩, ?_, ?_, ?_⟩
          · rw [HR.out]; exact InRow.mv HI.out.1 n9 o9
          · rw [HR.out]; exact InRow.mv HI.out.2 n9 o9
          · exact below_sets hbl6 n9 e9.1 e9.2.1 e9.2.2 o9
        · have HR : Hid (rdM s.data.toList = (mg0, chk m)) := (by rw [HF.out]; unfold fin; rw [if_pos hd, if_neg hc] : rdM s.data.toList = (mg0, chk m))
          rw [cdV_ne _ hc]
          have z0 : w6.cell? ⟨w.heap.size, 0, none⟩ = some _ := blk_cell (j := 0) hre6 (by simp)
          have z1 : w6.cell? ⟨w.heap.size, 1, none⟩ = some _ := blk_cell (j := 1) hre6 (by simp)
          have z2 : w6.cell? ⟨w.heap.size, 2, none⟩ = some _ := blk_cell (j := 2) hre6 (by simp)
          have z3 : w6.cell? ⟨w.heap.size, 3, none⟩ = some _ := blk_cell (j := 3) hre6 (by simp)
          have z4 : w6.cell? ⟨w.heap.size, 4, none⟩ = some _ := blk_cell (j := 4) hre6 (by simp)
          have z5 : w6.cell? ⟨w.heap.size, 5, none⟩ = some _ := blk_cell (j := 5) hre6 (by simp)
          have z6 : w6.cell? ⟨w.heap.size, 6, none⟩ = some _ := blk_cell (j := 6) hre6 (by simp)
          have z7 : w6.cell? ⟨w.heap.size, 7, none⟩ = some _ := blk_cell (j := 7) hre6 (by simp)
          have z8 : w6.cell? ⟨w.heap.size, 8, none⟩ = some _ := blk_cell (j := 8) hre6 (by simp)
          have zf : ∀ o, w6.frozen? ⟨w.heap.size, o, none⟩ = false := fun o => by simp [World.frozen?, hre6]
          have zl := lt_of_block hre6
          have hbl6 := R6.bel
          obtain ⟨W9, hW9⟩ : ∃ W9, W9 = sets9 w6 w.heap.size (.int .i64 0) (.string ⟨#[]⟩) (.bool false) (.slice none 0 0) (.int .i64 0) (.int .i64 0) (.int .i64 0) (.slice none 0 0) (.string ⟨#[]⟩) := ⟨_, rfl⟩
          have b9 : W9.heap[w.heap.size]? = _ := (congrArg (fun W : World => W.heap[w.heap.size]?) hW9).trans (sets9_box hre6)
          have y0 : W9.cell? ⟨w.heap.size, 0, none⟩ = some (.int .i64 0) := blk_cell (j := 0) b9 (by simp)
          have y1 : W9.cell? ⟨w.heap.size, 1, none⟩ = some (.string ⟨#[]⟩) := blk_cell (j := 1) b9 (by simp)
          have y2 : W9.cell? ⟨w.heap.size, 2, none⟩ = some (.bool false) := blk_cell (j := 2) b9 (by simp)
          have y3 : W9.cell? ⟨w.heap.size, 3, none⟩ = some (.slice none 0 0) := blk_cell (j := 3) b9 (by simp)
          have y4 : W9.cell? ⟨w.heap.size, 4, none⟩ = some (.int .i64 0) := blk_cell (j := 4) b9 (by simp)
          have y5 : W9.cell? ⟨w.heap.size, 5, none⟩ = some (.int .i64 0) := blk_cell (j := 5) b9 (by simp)
          have y6 : W9.cell? ⟨w.heap.size, 6, none⟩ = some (.int .i64 0) := blk_cell (j := 6) b9 (by simp)
          have y7 : W9.cell? ⟨w.heap.size, 7, none⟩ = some (.slice none 0 0) := blk_cell (j := 7) b9 (by simp)
          have y8 : W9.cell? ⟨w.heap.size, 8, none⟩ = some (.string ⟨#[]⟩) := blk_cell (j := 8) b9 (by simp)
          have o9 : ∀ k, k ≠ w.heap.size → W9.heap[k]? = w6.heap[k]? := fun k hk => by rw [hW9]; exact sets9_other hk
          have n9 : w6.heap.size ≤ W9.heap.size := by rw [hW9, sets9_size]; exact Nat.le_refl _
          have e9 : W9.os = w6.os ∧ W9.tape = w6.tape ∧ W9.output = w6.output := by rw [hW9]; exact sets9_rest
          have g9 : (((((((((w6.setCell ⟨w.heap.size, 0, none⟩ (.int .i64 0)).setCell ⟨w.heap.size, 1, none⟩ (.string ⟨#[]⟩)).setCell ⟨w.heap.size, 2, none⟩ (.bool false)).setCell ⟨w.heap.size, 3, none⟩ (.slice none 0 0)).setCell ⟨w.heap.size, 4, none⟩ (.int .i64 0)).setCell ⟨w.heap.size, 5, none⟩ (.int .i64 0)).setCell ⟨w.heap.size, 6, none⟩ (.int .i64 0)).setCell ⟨w.heap.size, 7, none⟩ (.slice none 0 0)).setCell ⟨w.heap.size, 8, none⟩ (.string ⟨#[]⟩)) = W9 := hW9.symm
          have H9 : Hid _ := g9
          clear hW9 g9 b9
          clear R5 R6 hbx5 hbx6 hre5 hre6 hA hb6
          go_wp2
          rw [H9.out]
          refine bodyPost_ret (v := .tuple #[.agg #[.int .i64 0, .string ⟨#[]⟩, .bool false, .slice none 0 0, .int .i64 0, .int .i64 0, .int .i64 0, .slice none 0 0, .string ⟨#[]⟩], .iface 40 (.int .i64 (chk m : Int))]) (by simp [results, Tryd.results14, go_sem, y0, y1, y2, y3, y4, y5, y6, y7, y8]) rfl ⟨none, 0, none, 0, _, by rw [HR.out]; rfl, by rw [HR.out]; exact .inr (.inl ⟨hc, rfl⟩), ?_, ?_, ?_⟩
          · rw [HR.out]; exact in_nil
          · rw [HR.out]; exact in_nil
          · exact below_sets hbl6 n9 e9.1 e9.2.1 e9.2.2 o9
      · have HR : Hid (rdM s.data.toList = (mg0, dn st2)) := (by rw [HF.out]; unfold fin; rw [if_neg hd] : rdM s.data.toList = (mg0, dn st2))
        have ct := hRd.doneE hd
        go_wp2_with fail
        refine ct.mono ?_
        rintro e w6 ⟨gf, rfl, hF, hgf, hA⟩
        have R6 := R.out.adds hA
        have hre6 := R6.res
        have z0 : w6.cell? ⟨w.heap.size, 0, none⟩ = some _ := blk_cell (j := 0) hre6 (by simp)
        have z1 : w6.cell? ⟨w.heap.size, 1, none⟩ = some _ := blk_cell (j := 1) hre6 (by simp)
        have z2 : w6.cell? ⟨w.heap.size, 2, none⟩ = some _ := blk_cell (j := 2) hre6 (by simp)
        have z3 : w6.cell? ⟨w.heap.size, 3, none⟩ = some _ := blk_cell (j := 3) hre6 (by simp)
        have z4 : w6.cell? ⟨w.heap.size, 4, none⟩ = some _ := blk_cell (j := 4) hre6 (by simp)
        have z5 : w6.cell? ⟨w.heap.size, 5, none⟩ = some _ := blk_cell (j := 5) hre6 (by simp)
        have z6 : w6.cell? ⟨w.heap.size, 6, none⟩ = some _ := blk_cell (j := 6) hre6 (by simp)
        have z7 : w6.cell? ⟨w.heap.size, 7, none⟩ = some _ := blk_cell (j := 7) hre6 (by simp)
        have z8 : w6.cell? ⟨w.heap.size, 8, none⟩ = some _ := blk_cell (j := 8) hre6 (by simp)
        have zf : ∀ o, w6.frozen? ⟨w.heap.size, o, none⟩ = false := fun o => by simp [World.frozen?, hre6]
        have zl := lt_of_block hre6
        have hbl6 := R6.bel
        obtain ⟨W9, hW9⟩ : ∃ W9, W9 = sets9 w6 w.heap.size (.int .i64 0) (.string ⟨#[]⟩) (.bool false) (.slice none 0 0) (.int .i64 0) (.int .i64 0) (.int .i64 0) (.slice none 0 0) (.string ⟨#[]⟩) := ⟨_, rfl⟩
        have b9 : W9.heap[w.heap.size]? = _ := (congrArg (fun W : World => W.heap[w.heap.size]?) hW9).trans (sets9_box hre6)
        have y0 : W9.cell? ⟨w.heap.size, 0, none⟩ = some (.int .i64 0) := blk_cell (j := 0) b9 (by simp)
        have y1 : W9.cell? ⟨w.heap.size, 1, none⟩ = some (.string ⟨#[]⟩) := blk_cell (j := 1) b9 (by simp)
        have y2 : W9.cell? ⟨w.heap.size, 2, none⟩ = some (.bool false) := blk_cell (j := 2) b9 (by simp)
        have y3 : W9.cell? ⟨w.heap.size, 3, none⟩ = some (.slice none 0 0) := blk_cell (j := 3) b9 (by simp)
        have y4 : W9.cell? ⟨w.heap.size, 4, none⟩ = some (.int .i64 0) := blk_cell (j := 4) b9 (by simp)
        have y5 : W9.cell? ⟨w.heap.size, 5, none⟩ = some (.int .i64 0) := blk_cell (j := 5) b9 (by simp)
        have y6 : W9.cell? ⟨w.heap.size, 6, none⟩ = some (.int .i64 0) := blk_cell (j := 6) b9 (by simp)
        have y7 : W9.cell? ⟨w.heap.size, 7, none⟩ = some (.slice none 0 0) := blk_cell (j := 7) b9 (by simp)
        have y8 : W9.cell? ⟨w.heap.size, 8, none⟩ = some (.string ⟨#[]⟩) := blk_cell (j := 8) b9 (by simp)
        have o9 : ∀ k, k ≠ w.heap.size → W9.heap[k]? = w6.heap[k]? := fun k hk => by rw [hW9]; exact sets9_other hk
        have n9 : w6.heap.size ≤ W9.heap.size := by rw [hW9, sets9_size]; exact Nat.le_refl _
        have e9 : W9.os = w6.os ∧ W9.tape = w6.tape ∧ W9.output = w6.output := by rw [hW9]; exact sets9_rest
        have g9 : (((((((((w6.setCell ⟨w.heap.size, 0, none⟩ (.int .i64 0)).setCell ⟨w.heap.size, 1, none⟩ (.string ⟨#[]⟩)).setCell ⟨w.heap.size, 2, none⟩ (.bool false)).setCell ⟨w.heap.size, 3, none⟩ (.slice none 0 0)).setCell ⟨w.heap.size, 4, none⟩ (.int .i64 0)).setCell ⟨w.heap.size, 5, none⟩ (.int .i64 0)).setCell ⟨w.heap.size, 6, none⟩ (.int .i64 0)).setCell ⟨w.heap.size, 7, none⟩ (.slice none 0 0)).setCell ⟨w.heap.size, 8, none⟩ (.string ⟨#[]⟩)) = W9 := hW9.symm
        have H9 : Hid _ := g9
        clear hW9 g9 b9
        clear hre6 hA
        go_wp2
        rw [H9.out]
        refine bodyPost_ret (v := .tuple #[.agg #[.int .i64 0, .string ⟨#[]⟩, .bool false, .slice none 0 0, .int .i64 0, .int .i64 0, .int .i64 0, .slice none 0 0, .string ⟨#[]⟩], .iface 124 (.pointer (some ⟨gf, 0, none⟩))]) (by simp [results, Tryd.results14, go_sem, y0, y1, y2, y3, y4, y5, y6, y7, y8]) rfl ⟨none, 0, none, 0, _, by rw [HR.out]; rfl, by rw [HR.out]; exact .inr (.inr ⟨hd, hF.mv o9 (by omega)⟩), ?_, ?_, ?_⟩
        · rw [HR.out]; exact in_nil
        · rw [HR.out]; exact in_nil
        · exact below_sets hbl6 n9 e9.1 e9.2.1 e9.2.2 o9
end Go.Proofs.YtakfinccoffplaaDoor
