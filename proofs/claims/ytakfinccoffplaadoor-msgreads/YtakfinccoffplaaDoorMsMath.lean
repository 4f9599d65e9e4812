/- Messages as bytes, in plain lists: what is right, how it is written, how it is read again, and that bytes that are read as a message are its bytes; no program in sight. -/
import Derived.Test.YtakfinccoffplaaDoorCodeMath
import Derived.Test.YtakfinccoffplaaDoorBagMath
import Derived.Test.YtakfinccoffplaaDoorValMath
namespace Go.Proofs.YtakfinccoffplaaDoor
open Go.RowKit
set_option linter.unusedVariables false

/-- A message. -/
structure Mg where
  kind : Int
  group : ByteArray
  any : Bool
  fl : List ByteArray
  pub : Int
  seq : Int
  hops : Int
  vl : List Vl
  pay : ByteArray
def mg0 : Mg := ⟨0, ByteArray.empty, false, [], 0, 0, 0, [], ByteArray.empty⟩

def chkP (m : Mg) : Nat := if m.pub ≠ 0 ∨ m.seq ≠ 0 ∨ 0 < m.vl.length ∨ 0 < m.pay.size then 11 else 0
def chkE (m : Mg) : Nat :=
  if m.pub < 0 ∨ 32 ≤ m.pub ∨ m.seq < 1 ∨ 1073741824 < m.seq ∨ m.hops < 0 ∨ 65 < m.hops then 1 else if 4 < m.vl.length then 11 else 0
def chkK (m : Mg) : Nat :=
  if m.kind = 1 then (if (m.any = true ∧ 0 < m.fl.length) ∨ 16 < m.fl.length then 11 else chkP m)
  else if m.kind = 2 then chkP m
  else if m.kind = 5 then (if 0 < m.vl.length ∨ 0 < m.pay.size then 11 else chkE m)
  else if m.kind = 3 ∨ m.kind = 4 then chkE m
  else 11
/-- The code of a message. -/
def chk (m : Mg) : Nat :=
  if m.group.size < 1 ∨ 40 < m.group.size then 1
  else if (m.kind ≠ 1 ∧ (m.any = true ∨ 0 < m.fl.length)) ∨ (m.kind ≠ 3 ∧ m.hops ≠ 0) then 11
  else chkK m

def intB (n : Int) : List UInt8 := numB (zig n)
def txtB (s : ByteArray) : List UInt8 := numB s.size ++ s.data.toList
def vlB (v : Vl) : List UInt8 := intB v.num ++ txtB v.str
/-- What stands behind kind and group. -/
def tlB (m : Mg) : List UInt8 :=
  if m.kind = 1 then (if m.any = true then intB (-1) else intB m.fl.length ++ m.fl.flatMap txtB)
  else if m.kind = 3 ∨ m.kind = 4 ∨ m.kind = 5 then
    intB m.pub ++ (intB m.seq ++ (if m.kind = 5 then [] else intB m.hops ++ (intB m.vl.length ++ (m.vl.flatMap vlB ++ txtB m.pay))))
  else []
/-- A message's bytes. -/
def mB (m : Mg) : List UInt8 := intB m.kind ++ (txtB m.group ++ tlB m)

abbrev PS := List UInt8 × Nat
/-- A reader's Int. -/
def pI (st : PS) : Int × PS := if st.2 = 0 then (zag (rdNum 0 0 st.1).1, (st.1.drop (rdNum 0 0 st.1).2.1, (rdNum 0 0 st.1).2.2)) else (0, st)
/-- A reader's Text. -/
def pT (most : Nat) (st : PS) : ByteArray × PS :=
  if st.2 = 0 then
    if (rdNum 0 0 st.1).2.2 = 0 then
      if (rdNum 0 0 st.1).1 ≤ most then
        if (rdNum 0 0 st.1).1 ≤ (st.1.drop (rdNum 0 0 st.1).2.1).length then (⟨((st.1.drop (rdNum 0 0 st.1).2.1).take (rdNum 0 0 st.1).1).toArray⟩, ((st.1.drop (rdNum 0 0 st.1).2.1).drop (rdNum 0 0 st.1).1, 0))
        else (ByteArray.empty, (st.1.drop (rdNum 0 0 st.1).2.1, 10))
      else (ByteArray.empty, (st.1, 1))
    else (ByteArray.empty, (st.1.drop (rdNum 0 0 st.1).2.1, (rdNum 0 0 st.1).2.2))
  else (ByteArray.empty, st)
/-- A reader's Below. -/
def pB (most : Int) (st : PS) : Int × PS :=
  if st.2 = 0 then
    if (rdNum 0 0 st.1).2.2 = 0 then
      if 0 ≤ zag (rdNum 0 0 st.1).1 ∧ zag (rdNum 0 0 st.1).1 < most then (zag (rdNum 0 0 st.1).1, (st.1.drop (rdNum 0 0 st.1).2.1, 0))
      else (0, (st.1, 1))
    else (0, (st.1.drop (rdNum 0 0 st.1).2.1, (rdNum 0 0 st.1).2.2))
  else (0, st)
/-- n texts. -/
def pTs : Nat → PS → List ByteArray × PS
  | 0, st => ([], st)
  | n + 1, st => ((pTs n st).1 ++ [(pT 1970 (pTs n st).2).1], (pT 1970 (pTs n st).2).2)
/-- n values. -/
def pVs : Nat → PS → List Vl × PS
  | 0, st => ([], st)
  | n + 1, st => ((pVs n st).1 ++ [⟨(pI (pVs n st).2).1, (pT 1970 (pI (pVs n st).2).2).1⟩], (pT 1970 (pI (pVs n st).2).2).2)
/-- A reader's Done. -/
def dn (st : PS) : Nat := if st.2 = 0 then (if st.1 = [] then 0 else 11) else st.2
def fin (m : Mg) (st : PS) : Mg × Nat := if dn st = 0 then (if chk m = 0 then (m, 0) else (mg0, chk m)) else (mg0, dn st)

/-- What behind kind and group is read: none: there can't be so many filters. -/
def rdK (k : Int) (g : ByteArray) (st : PS) : Option (Mg × PS) :=
  if k = 1 then
    if (pI st).1 < -1 ∨ 16 < (pI st).1 then none
    else some (⟨1, g, decide ((pI st).1 = -1), (pTs (pI st).1.toNat (pI st).2).1, 0, 0, 0, [], ByteArray.empty⟩, (pTs (pI st).1.toNat (pI st).2).2)
  else if k = 5 then some (⟨5, g, false, [], (pI st).1, (pI (pI st).2).1, 0, [], ByteArray.empty⟩, (pI (pI st).2).2)
  else if k = 3 ∨ k = 4 then
    let h := pI (pI (pI st).2).2
    let n := pB 5 h.2
    let v := pVs n.1.toNat n.2
    some (⟨k, g, false, [], (pI st).1, (pI (pI st).2).1, h.1, v.1, (pT 1970 v.2).1⟩, (pT 1970 v.2).2)
  else some (⟨k, g, false, [], 0, 0, 0, [], ByteArray.empty⟩, st)
/-- The message of bytes, the code. -/
def rdM (l : List UInt8) : Mg × Nat :=
  if 1970 < l.length then (mg0, 4)
  else match rdK (pI (l, 0)).1 (pT 40 (pI (l, 0)).2).1 (pT 40 (pI (l, 0)).2).2 with
    | none => (mg0, 11)
    | some (m, st) => fin m st

/-! ### One thing -/

theorem rd_split (l : List UInt8) (h : (rdNum 0 0 l).2.2 = 0) :
    (rdNum 0 0 l).1 < 18446744073709551616 ∧ l = numB (rdNum 0 0 l).1 ++ l.drop (rdNum 0 0 l).2.1 := by
  obtain ⟨n, h1, h2, h3, _⟩ := rd_one 0 0 l (by omega) h
  simp at h1 h2
  rw [h1]
  refine ⟨h2, ?_⟩
  rw [← h3, List.take_append_drop]
theorem zig_zag (m : Nat) (h : m < 18446744073709551616) : zig (zag m) = m := by
  unfold zig zag; split <;> split <;> omega
theorem zag_i64 (m : Nat) (h : m < 18446744073709551616) : i64 (zag m) := by
  unfold zag i64; split <;> omega
theorem pI_ok (st : PS) (h : (pI st).2.2 = 0) : st.2 = 0 ∧ st.1 = intB (pI st).1 ++ (pI st).2.1 ∧ i64 (pI st).1 := by
  unfold pI at *
  by_cases hc : st.2 = 0
  · rw [if_pos hc] at h ⊢
    obtain ⟨h1, h2⟩ := rd_split st.1 h
    refine ⟨hc, ?_, zag_i64 _ h1⟩
    show st.1 = numB (zig (zag _)) ++ _
    rw [zig_zag _ h1]; exact h2
  · rw [if_neg hc] at h; exact absurd h hc
theorem pI_back (v : Int) (l : List UInt8) (hv : i64 v) : pI (intB v ++ l, 0) = (v, (l, 0)) := by
  unfold i64 at hv
  have := rd_back (zig v) l (zig_lt v hv.1 hv.2)
  unfold pI intB
  simp [this, zag_zig]
theorem pI_stuck (st : PS) (h : st.2 ≠ 0) : pI st = (0, st) := by unfold pI; rw [if_neg h]

theorem txt_eq (s : ByteArray) : (⟨s.data.toList.toArray⟩ : ByteArray) = s := by cases s; simp
theorem pT_ok (most : Nat) (st : PS) (h : (pT most st).2.2 = 0) :
    st.2 = 0 ∧ st.1 = txtB (pT most st).1 ++ (pT most st).2.1 ∧ (pT most st).1.size ≤ most := by
  unfold pT at *
  by_cases hc : st.2 = 0
  · rw [if_pos hc] at h ⊢
    by_cases h1 : (rdNum 0 0 st.1).2.2 = 0
    · rw [if_pos h1] at h ⊢
      by_cases h2 : (rdNum 0 0 st.1).1 ≤ most
      · rw [if_pos h2] at h ⊢
        by_cases h3 : (rdNum 0 0 st.1).1 ≤ (st.1.drop (rdNum 0 0 st.1).2.1).length
        · rw [if_pos h3] at h ⊢
          obtain ⟨k1, k2⟩ := rd_split st.1 h1
          generalize (rdNum 0 0 st.1).1 = n at *
          generalize st.1.drop (rdNum 0 0 st.1).2.1 = x at *
          have hz : (⟨(x.take n).toArray⟩ : ByteArray).size = n := by
            show (x.take n).toArray.size = n
            simp; omega
          refine ⟨hc, ?_, by rw [hz]; exact h2⟩
          unfold txtB
          rw [hz]
          show st.1 = numB n ++ (x.take n).toArray.toList ++ x.drop n
          rw [List.append_assoc]
          simpa using k2
        · rw [if_neg h3] at h; simp at h
      · rw [if_neg h2] at h; simp at h
    · rw [if_neg h1] at h; exact absurd h h1
  · rw [if_neg hc] at h; exact absurd h hc
theorem pT_back (most : Nat) (s : ByteArray) (l : List UInt8) (hs : s.size ≤ most) (hm : most ≤ 1000000) : pT most (txtB s ++ l, 0) = (s, (l, 0)) := by
  have h := rd_back s.size (s.data.toList ++ l) (by omega)
  have e : txtB s ++ l = numB s.size ++ (s.data.toList ++ l) := by unfold txtB; rw [List.append_assoc]
  have hl : s.data.toList.length = s.size := by simp
  unfold pT
  rw [e]
  simp only [h, if_true, if_pos hs]
  have hd : List.drop (numB s.size).length (numB s.size ++ (s.data.toList ++ l)) = s.data.toList ++ l := by simp
  rw [hd, if_pos (by simp)]
  have t1 : List.take s.size (s.data.toList ++ l) = s.data.toList := by rw [← hl]; simp
  have t2 : List.drop s.size (s.data.toList ++ l) = l := by rw [← hl]; simp
  rw [t1, t2, txt_eq]
theorem pT_stuck (most : Nat) (st : PS) (h : st.2 ≠ 0) : pT most st = (ByteArray.empty, st) := by unfold pT; rw [if_neg h]

theorem pB_ok (most : Int) (st : PS) (h : (pB most st).2.2 = 0) :
    st.2 = 0 ∧ st.1 = intB (pB most st).1 ++ (pB most st).2.1 ∧ 0 ≤ (pB most st).1 ∧ (pB most st).1 < most := by
  unfold pB at *
  by_cases hc : st.2 = 0
  · rw [if_pos hc] at h ⊢
    by_cases h1 : (rdNum 0 0 st.1).2.2 = 0
    · rw [if_pos h1] at h ⊢
      by_cases h2 : 0 ≤ zag (rdNum 0 0 st.1).1 ∧ zag (rdNum 0 0 st.1).1 < most
      · rw [if_pos h2] at h ⊢
        obtain ⟨k1, k2⟩ := rd_split st.1 h1
        refine ⟨hc, ?_, h2.1, h2.2⟩
        show st.1 = numB (zig (zag _)) ++ _
        rw [zig_zag _ k1]; exact k2
      · rw [if_neg h2] at h; simp at h
    · rw [if_neg h1] at h; exact absurd h h1
  · rw [if_neg hc] at h; exact absurd h hc
theorem pB_back (most : Int) (v : Int) (l : List UInt8) (h0 : 0 ≤ v) (h1 : v < most) (hv : i64 v) : pB most (intB v ++ l, 0) = (v, (l, 0)) := by
  unfold i64 at hv
  have := rd_back (zig v) l (zig_lt v hv.1 hv.2)
  unfold pB intB
  simp [this, zag_zig, h0, h1]
theorem pB_range (most : Int) (st : PS) (hm : 0 < most) : 0 ≤ (pB most st).1 ∧ (pB most st).1 < most := by
  unfold pB
  by_cases hc : st.2 = 0
  · rw [if_pos hc]
    by_cases h1 : (rdNum 0 0 st.1).2.2 = 0
    · rw [if_pos h1]
      by_cases h2 : 0 ≤ zag (rdNum 0 0 st.1).1 ∧ zag (rdNum 0 0 st.1).1 < most
      · rw [if_pos h2]; exact h2
      · rw [if_neg h2]; exact ⟨Int.le_refl _, hm⟩
    · rw [if_neg h1]; exact ⟨Int.le_refl _, hm⟩
  · rw [if_neg hc]; exact ⟨Int.le_refl _, hm⟩

/-! ### Several things -/

theorem pTs_ok (n : Nat) (st : PS) (h : (pTs n st).2.2 = 0) :
    st.2 = 0 ∧ st.1 = (pTs n st).1.flatMap txtB ++ (pTs n st).2.1 ∧ (pTs n st).1.length = n := by
  induction n with
  | zero => exact ⟨h, rfl, rfl⟩
  | succ n ih =>
    have h' : (pT 1970 (pTs n st).2).2.2 = 0 := h
    obtain ⟨k1, k2, k3⟩ := pT_ok _ _ h'
    obtain ⟨j1, j2, j3⟩ := ih k1
    refine ⟨j1, ?_, by simp [pTs, j3]⟩
    show st.1 = ((pTs n st).1 ++ [_]).flatMap txtB ++ (pT 1970 (pTs n st).2).2.1
    rw [List.flatMap_append, List.append_assoc]
    simp only [List.flatMap_cons, List.flatMap_nil, List.append_nil]
    rw [← k2]; exact j2
theorem pTs_back (fs : List ByteArray) (l : List UInt8) (h : ∀ f ∈ fs, f.size ≤ 1970) : pTs fs.length (fs.flatMap txtB ++ l, 0) = (fs, (l, 0)) := by
  have key : ∀ n, n ≤ fs.length → pTs n (fs.flatMap txtB ++ l, 0) = (fs.take n, ((fs.drop n).flatMap txtB ++ l, 0)) := by
    intro n
    induction n with
    | zero => intro _; simp [pTs]
    | succ n ih =>
      intro hn
      have e := ih (by omega)
      have hx : fs.drop n = fs[n] :: fs.drop (n + 1) := List.drop_eq_getElem_cons (by omega)
      simp only [pTs, e]
      rw [hx]
      have e2 : ((fs[n] :: fs.drop (n + 1)).flatMap txtB ++ l) = txtB fs[n] ++ ((fs.drop (n + 1)).flatMap txtB ++ l) := by rw [List.flatMap_cons, List.append_assoc]
      rw [e2, pT_back 1970 fs[n] _ (h _ (List.getElem_mem _)) (by omega), List.take_succ_eq_append_getElem (by omega)]
  have := key fs.length (Nat.le_refl _)
  simpa using this
theorem pVs_ok (n : Nat) (st : PS) (h : (pVs n st).2.2 = 0) :
    st.2 = 0 ∧ st.1 = (pVs n st).1.flatMap vlB ++ (pVs n st).2.1 ∧ (pVs n st).1.length = n ∧ ∀ v ∈ (pVs n st).1, i64 v.num := by
  induction n with
  | zero => exact ⟨h, rfl, rfl, by simp [pVs]⟩
  | succ n ih =>
    have h' : (pT 1970 (pI (pVs n st).2).2).2.2 = 0 := h
    obtain ⟨k1, k2, k3⟩ := pT_ok _ _ h'
    obtain ⟨m1, m2, m3⟩ := pI_ok _ k1
    obtain ⟨j1, j2, j3, j4⟩ := ih m1
    refine ⟨j1, ?_, by simp [pVs, j3], ?_⟩
    · show st.1 = ((pVs n st).1 ++ [_]).flatMap vlB ++ (pT 1970 (pI (pVs n st).2).2).2.1
      rw [List.flatMap_append, List.append_assoc]
      simp only [List.flatMap_cons, List.flatMap_nil, List.append_nil, vlB]
      rw [List.append_assoc, ← k2, ← m2]; exact j2
    · intro v hv
      rcases List.mem_append.1 (show v ∈ (pVs n st).1 ++ [_] from hv) with hv | hv
      · exact j4 v hv
      · rw [List.mem_singleton.1 hv]; exact m3
theorem pVs_back (vs : List Vl) (l : List UInt8) (h : ∀ v ∈ vs, i64 v.num ∧ v.str.size ≤ 1970) : pVs vs.length (vs.flatMap vlB ++ l, 0) = (vs, (l, 0)) := by
  have key : ∀ n, n ≤ vs.length → pVs n (vs.flatMap vlB ++ l, 0) = (vs.take n, ((vs.drop n).flatMap vlB ++ l, 0)) := by
    intro n
    induction n with
    | zero => intro _; simp [pVs]
    | succ n ih =>
      intro hn
      have e := ih (by omega)
      have hx : vs.drop n = vs[n] :: vs.drop (n + 1) := List.drop_eq_getElem_cons (by omega)
      simp only [pVs, e]
      rw [hx]
      have e2 : ((vs[n] :: vs.drop (n + 1)).flatMap vlB ++ l) = intB vs[n].num ++ (txtB vs[n].str ++ ((vs.drop (n + 1)).flatMap vlB ++ l)) := by rw [List.flatMap_cons, vlB]; simp only [List.append_assoc]
      have hm := h vs[n] (List.getElem_mem _)
      rw [e2, pI_back _ _ hm.1]
      simp only
      rw [pT_back 1970 _ _ hm.2 (by omega), List.take_succ_eq_append_getElem (by omega)]
  have := key vs.length (Nat.le_refl _)
  simpa using this

/-! ### A whole message -/

theorem Mg.ext' {a b : Mg} (h1 : a.kind = b.kind) (h2 : a.group = b.group) (h3 : a.any = b.any) (h4 : a.fl = b.fl) (h5 : a.pub = b.pub) (h6 : a.seq = b.seq) (h7 : a.hops = b.hops) (h8 : a.vl = b.vl) (h9 : a.pay = b.pay) : a = b := by
  cases a; cases b; simp_all
theorem ba_nil (s : ByteArray) (h : ¬ 0 < s.size) : s = ByteArray.empty := by
  have h0 : s.size = 0 := by omega
  exact ByteArray.size_eq_zero_iff.1 h0

structure ChkG (m : Mg) : Prop where
  g1 : 1 ≤ m.group.size
  g2 : m.group.size ≤ 40
theorem chk_group {m : Mg} (h : chk m = 0) : 1 ≤ m.group.size ∧ m.group.size ≤ 40 := by
  unfold chk at h; split at h
  · omega
  · omega
theorem chk_shape {m : Mg} (h : chk m = 0) : (m.kind ≠ 1 → m.any = false ∧ m.fl = []) ∧ (m.kind ≠ 3 → m.hops = 0) ∧ chkK m = 0 := by
  unfold chk at h
  split at h
  · omega
  · split at h
    · omega
    · rename_i _ hn
      refine ⟨fun hk => ?_, fun hk => ?_, h⟩
      · refine ⟨?_, ?_⟩
        · cases ha : m.any with
          | false => rfl
          | true => exact absurd (.inl ⟨hk, .inl ha⟩) hn
        · cases hf : m.fl with
          | nil => rfl
          | cons a l => exact absurd (.inl ⟨hk, .inr (by simp [hf])⟩) hn
      · by_cases h0 : m.hops = 0
        · exact h0
        · exact absurd (.inr ⟨hk, h0⟩) hn
theorem chkP_zero {m : Mg} (h : chkP m = 0) : m.pub = 0 ∧ m.seq = 0 ∧ m.vl = [] ∧ m.pay = ByteArray.empty := by
  unfold chkP at h
  split at h
  · omega
  · rename_i hn
    refine ⟨by omega, by omega, ?_, ba_nil _ (by omega)⟩
    cases hv : m.vl with
    | nil => rfl
    | cons a l => exact absurd (.inr (.inr (.inl (by simp [hv])))) hn
theorem chkE_zero {m : Mg} (h : chkE m = 0) : 0 ≤ m.pub ∧ m.pub < 32 ∧ 1 ≤ m.seq ∧ m.seq ≤ 1073741824 ∧ 0 ≤ m.hops ∧ m.hops ≤ 65 ∧ m.vl.length ≤ 4 := by
  unfold chkE at h
  split at h
  · omega
  · split at h
    · omega
    · omega
theorem chk_kind {m : Mg} (h : chkK m = 0) : m.kind = 1 ∨ m.kind = 2 ∨ m.kind = 5 ∨ m.kind = 3 ∨ m.kind = 4 := by
  unfold chkK at h
  split at h
  · simp [*]
  split at h
  · simp [*]
  split at h
  · simp [*]
  split at h
  · omega
  · omega

/-- Its numbers are ints. -/
def Mg.wf (m : Mg) : Prop := ∀ v ∈ m.vl, i64 v.num

theorem flat_le {α : Type} (f : α → List UInt8) (l : List α) (a : α) (h : a ∈ l) : (f a).length ≤ (l.flatMap f).length := by
  induction l with
  | nil => simp at h
  | cons b l ih =>
    rcases List.mem_cons.1 h with rfl | h
    · simp
    · have := ih h; rw [List.flatMap_cons, List.length_append]; omega
theorem txt_len (s : ByteArray) : s.size ≤ (txtB s).length := by unfold txtB; simp
theorem i64_nat (n : Nat) (h : n ≤ 1000000) : i64 (n : Int) := by unfold i64; omega
theorem i64_small (n : Int) (h0 : -10000000000 ≤ n) (h1 : n ≤ 10000000000) : i64 n := by unfold i64; omega

/-- What is written is read again, whatever stands behind. -/
theorem rdK_back (m : Mg) (x : List UInt8) (hw : m.wf) (hc : chk m = 0) (hl : (mB m).length ≤ 1970) : rdK m.kind m.group (tlB m ++ x, 0) = some (m, (x, 0)) := by
  obtain ⟨s1, s2, hK⟩ := chk_shape hc
  have hlt : (tlB m).length ≤ 1970 := by unfold mB at hl; simp at hl; omega
  have hk := chk_kind hK
  rcases hk with hk | hk | hk | hk | hk
  · have hP : chkP m = 0 ∧ (m.any = true → m.fl = []) ∧ m.fl.length ≤ 16 := by
      unfold chkK at hK
      rw [if_pos hk] at hK
      split at hK
      · omega
      · rename_i hn
        refine ⟨hK, fun ha => ?_, by omega⟩
        cases hf : m.fl with
        | nil => rfl
        | cons a l => exact absurd (.inl ⟨ha, by simp [hf]⟩) hn
    obtain ⟨hP, hA, hF⟩ := hP
    obtain ⟨p1, p2, p3, p4⟩ := chkP_zero hP
    have p5 := s2 (by omega)
    have et : tlB m = (if m.any = true then intB (-1) else intB m.fl.length ++ m.fl.flatMap txtB) := by unfold tlB; rw [if_pos hk]
    unfold rdK
    rw [if_pos hk]
    by_cases ha : m.any = true
    · rw [et, if_pos ha, pI_back _ _ (i64_small _ (by omega) (by omega))]
      simp only
      rw [if_neg (by omega)]
      have hfl := hA ha
      simp only [Option.some.injEq, Prod.mk.injEq]
      have e1 : ((-1 : Int)).toNat = 0 := rfl
      rw [e1]
      exact ⟨Mg.ext' hk.symm rfl (by simp [ha]) (by simp [pTs, hfl]) p1.symm p2.symm p5.symm p3.symm p4.symm, rfl⟩
    · have et2 : tlB m = intB m.fl.length ++ m.fl.flatMap txtB := by rw [et, if_neg ha]
      rw [et2, List.append_assoc, pI_back _ _ (i64_nat _ (by omega))]
      simp only
      rw [if_neg (by omega)]
      have e1 : ((m.fl.length : Int)).toNat = m.fl.length := by omega
      have hsz : ∀ f ∈ m.fl, f.size ≤ 1970 := fun f hf => by
        have := flat_le txtB m.fl f hf
        have := txt_len f
        rw [et2] at hlt; simp only [List.length_append] at hlt; omega
      rw [e1, pTs_back m.fl x hsz]
      simp only [Option.some.injEq, Prod.mk.injEq, and_true]
      exact Mg.ext' hk.symm rfl (by simp [ha]) rfl p1.symm p2.symm p5.symm p3.symm p4.symm
  · have hP : chkP m = 0 := by unfold chkK at hK; rw [if_neg (by omega), if_pos hk] at hK; exact hK
    obtain ⟨p1, p2, p3, p4⟩ := chkP_zero hP
    have p5 := s2 (by omega)
    obtain ⟨a1, a2⟩ := s1 (by omega)
    have et : tlB m = [] := by unfold tlB; rw [if_neg (by omega), if_neg (by omega)]
    unfold rdK
    rw [if_neg (by omega), if_neg (by omega), if_neg (by omega), et]
    simp only [List.nil_append, Option.some.injEq, Prod.mk.injEq, and_true]
    exact Mg.ext' rfl rfl a1.symm a2.symm p1.symm p2.symm p5.symm p3.symm p4.symm
  · have hE : chkE m = 0 ∧ m.vl = [] ∧ m.pay = ByteArray.empty := by
      unfold chkK at hK
      rw [if_neg (by omega), if_neg (by omega), if_pos hk] at hK
      split at hK
      · omega
      · rename_i hn
        refine ⟨hK, ?_, ba_nil _ (by omega)⟩
        cases hv : m.vl with
        | nil => rfl
        | cons a l => exact absurd (.inl (by simp [hv])) hn
    obtain ⟨hE, p3, p4⟩ := hE
    obtain ⟨q1, q2, q3, q4, q5, q6, q7⟩ := chkE_zero hE
    have p5 := s2 (by omega)
    obtain ⟨a1, a2⟩ := s1 (by omega)
    have et : tlB m = intB m.pub ++ intB m.seq := by unfold tlB; rw [if_neg (by omega), if_pos (by omega), if_pos hk, List.append_nil]
    unfold rdK
    rw [if_neg (by omega), if_pos hk, et, List.append_assoc, pI_back _ _ (i64_small _ (by omega) (by omega))]
    simp only
    rw [pI_back _ _ (i64_small _ (by omega) (by omega))]
    simp only [Option.some.injEq, Prod.mk.injEq, and_true]
    exact Mg.ext' hk.symm rfl a1.symm a2.symm rfl rfl p5.symm p3.symm p4.symm
  all_goals
    have hE : chkE m = 0 := by
      unfold chkK at hK
      rw [if_neg (by omega), if_neg (by omega), if_neg (by omega), if_pos (by omega)] at hK
      exact hK
    obtain ⟨q1, q2, q3, q4, q5, q6, q7⟩ := chkE_zero hE
    obtain ⟨a1, a2⟩ := s1 (by omega)
    have et : tlB m = intB m.pub ++ (intB m.seq ++ (intB m.hops ++ (intB m.vl.length ++ (m.vl.flatMap vlB ++ txtB m.pay)))) := by
      unfold tlB; rw [if_neg (by omega), if_pos (by omega), if_neg (by omega)]
    have hpay : m.pay.size ≤ 1970 := by
      have := txt_len m.pay
      rw [et] at hlt; simp only [List.length_append] at hlt; omega
    have hvs : ∀ v ∈ m.vl, i64 v.num ∧ v.str.size ≤ 1970 := fun v hv => by
      have h1 := flat_le vlB m.vl v hv
      have h2 := txt_len v.str
      have h3 : (vlB v).length = (intB v.num).length + (txtB v.str).length := by unfold vlB; simp
      refine ⟨hw v hv, ?_⟩
      rw [et] at hlt; simp only [List.length_append] at hlt; omega
    unfold rdK
    rw [if_neg (by omega), if_neg (by omega), if_pos (by omega), et]
    simp only [List.append_assoc]
    rw [pI_back _ _ (i64_small _ (by omega) (by omega))]
    simp only
    rw [pI_back _ _ (i64_small _ (by omega) (by omega))]
    simp only
    rw [pI_back _ _ (i64_small _ (by omega) (by omega))]
    simp only
    rw [pB_back 5 _ _ (by omega) (by omega) (i64_nat _ (by omega))]
    simp only
    have e1 : ((m.vl.length : Int)).toNat = m.vl.length := by omega
    rw [e1, pVs_back m.vl _ hvs]
    simp only
    rw [pT_back 1970 _ _ hpay (by omega)]
    simp only [Option.some.injEq, Prod.mk.injEq, and_true]
    exact Mg.ext' rfl rfl a1.symm a2.symm rfl rfl rfl rfl rfl

theorem rdM_back (m : Mg) (x : List UInt8) (hw : m.wf) (hc : chk m = 0) (hl : (mB m).length ≤ 1970) :
    rdM (mB m ++ x) = if 1970 < (mB m ++ x).length then (mg0, 4) else if x = [] then (m, 0) else (mg0, 11) := by
  unfold rdM
  by_cases h : 1970 < (mB m ++ x).length
  · rw [if_pos h, if_pos h]
  · rw [if_neg h, if_neg h]
    obtain ⟨_, _, hK⟩ := chk_shape hc
    have hk := chk_kind hK
    have e : mB m ++ x = intB m.kind ++ (txtB m.group ++ (tlB m ++ x)) := by unfold mB; simp
    rw [e, pI_back _ _ (i64_small _ (by omega) (by omega))]
    simp only
    rw [pT_back 40 _ _ (chk_group hc).2 (by omega)]
    simp only
    rw [rdK_back m x hw hc hl]
    simp only [fin, dn]
    by_cases hx : x = []
    · simp [hx, hc]
    · simp [hx]

theorem rdK_ok (k : Int) (g : ByteArray) (st : PS) (m : Mg) (l : List UInt8) (h : rdK k g st = some (m, (l, 0))) :
    st.2 = 0 ∧ m.kind = k ∧ m.group = g ∧ st.1 = tlB m ++ l ∧ m.wf := by
  unfold rdK at h
  by_cases k1 : k = 1
  · rw [if_pos k1] at h
    split at h
    · simp at h
    · rename_i hn
      simp only [Option.some.injEq, Prod.mk.injEq] at h
      obtain ⟨hm, hst⟩ := h
      have h0 : (pTs (pI st).1.toNat (pI st).2).2.2 = 0 := by rw [hst]
      obtain ⟨j1, j2, j3⟩ := pTs_ok _ _ h0
      obtain ⟨i1, i2, i3⟩ := pI_ok _ j1
      rw [hst] at j2
      refine ⟨i1, by rw [← hm]; exact k1.symm, by rw [← hm], ?_, by rw [← hm]; intro v hv; simp at hv⟩
      rw [← hm]
      unfold tlB
      simp only [if_true]
      by_cases ha : (pI st).1 = -1
      · rw [if_pos (by simp [ha])]
        rw [ha] at j2 i2
        rw [i2]; congr 1
      · rw [if_neg (by simp [ha]), j3, List.append_assoc, ← j2]
        have e : (((pI st).1.toNat : Nat) : Int) = (pI st).1 := by omega
        rw [e]; exact i2
  rw [if_neg k1] at h
  by_cases k5 : k = 5
  · rw [if_pos k5] at h
    simp only [Option.some.injEq, Prod.mk.injEq] at h
    obtain ⟨hm, hst⟩ := h
    obtain ⟨j1, j2, j3⟩ := pI_ok (pI st).2 (by rw [hst])
    obtain ⟨i1, i2, i3⟩ := pI_ok _ j1
    rw [hst] at j2
    refine ⟨i1, by rw [← hm]; exact k5.symm, by rw [← hm], ?_, by rw [← hm]; intro v hv; simp at hv⟩
    rw [← hm]
    unfold tlB
    rw [if_neg (by simp), if_pos (by simp), if_pos rfl, List.append_nil, List.append_assoc]
    simp only
    rw [← j2]; exact i2
  rw [if_neg k5] at h
  by_cases k34 : k = 3 ∨ k = 4
  · rw [if_pos k34] at h
    simp only [Option.some.injEq, Prod.mk.injEq] at h
    obtain ⟨hm, hst⟩ := h
    obtain ⟨t1, t2, t3⟩ := pT_ok 1970 _ (by rw [hst])
    obtain ⟨v1, v2, v3, v4⟩ := pVs_ok _ _ t1
    obtain ⟨b1, b2, b3, b4⟩ := pB_ok 5 _ v1
    obtain ⟨c1, c2, c3⟩ := pI_ok _ b1
    obtain ⟨j1, j2, j3⟩ := pI_ok _ c1
    obtain ⟨i1, i2, i3⟩ := pI_ok _ j1
    rw [hst] at t2
    refine ⟨i1, by rw [← hm], by rw [← hm], ?_, by rw [← hm]; exact v4⟩
    rw [← hm]
    unfold tlB
    rw [if_neg (by simpa using k1), if_pos (by simp; omega), if_neg (by simpa using k5)]
    simp only [List.append_assoc]
    rw [v3, ← t2, ← v2]
    have e : ∀ z : Int, 0 ≤ z → ((z.toNat : Nat) : Int) = z := fun z hz => by omega
    rw [e _ b3, ← b2, ← c2, ← j2]; exact i2
  · rw [if_neg k34] at h
    simp only [Option.some.injEq, Prod.mk.injEq] at h
    obtain ⟨hm, hst⟩ := h
    refine ⟨by rw [hst], by rw [← hm], by rw [← hm], ?_, by rw [← hm]; intro v hv; simp at hv⟩
    rw [← hm]
    unfold tlB
    rw [if_neg (by simpa using k1), if_neg (by simp; omega), hst]; rfl

/-- Bytes that are read as a message are its bytes. -/
theorem rdM_ok (l : List UInt8) (h : (rdM l).2 = 0) : l = mB (rdM l).1 ∧ chk (rdM l).1 = 0 ∧ l.length ≤ 1970 ∧ (rdM l).1.wf := by
  unfold rdM at *
  by_cases hl : 1970 < l.length
  · rw [if_pos hl] at h; simp at h
  rw [if_neg hl] at h ⊢
  cases hK : rdK (pI (l, 0)).1 (pT 40 (pI (l, 0)).2).1 (pT 40 (pI (l, 0)).2).2 with
  | none => rw [hK] at h; simp at h
  | some x =>
    obtain ⟨m, st⟩ := x
    rw [hK] at h
    simp only at h ⊢
    unfold fin at *
    by_cases hd : dn st = 0
    · rw [if_pos hd] at h ⊢
      by_cases hc : chk m = 0
      · rw [if_pos hc] at h ⊢
        unfold dn at hd
        split at hd
        · split at hd
          · rename_i e1 e2
            obtain ⟨l', c'⟩ := st
            simp only at e1 e2
            subst e1 e2
            obtain ⟨a1, a2, a3, a4, a5⟩ := rdK_ok _ _ _ _ _ hK
            obtain ⟨t1, t2, t3⟩ := pT_ok 40 _ a1
            obtain ⟨i1, i2, i3⟩ := pI_ok _ t1
            refine ⟨?_, hc, by omega, a5⟩
            unfold mB
            rw [a2, a3]
            rw [a4, List.append_nil] at t2
            rw [← t2]; exact i2
          · omega
        · rename_i e1; exact absurd hd e1
      · rw [if_neg hc] at h; exact absurd h hc
    · rw [if_neg hd] at h; exact absurd h hd

/-- Bytes of a message with something behind are no message's. -/
theorem rdM_more (l x : List UInt8) (hx : x ≠ []) (h : (rdM l).2 = 0) : (rdM (l ++ x)).2 ≠ 0 := by
  obtain ⟨h1, h2, h3, h4⟩ := rdM_ok l h
  have := rdM_back (rdM l).1 x h4 h2 (by rw [← h1]; exact h3)
  rw [← h1] at this
  rw [this]
  split <;> simp
end Go.Proofs.YtakfinccoffplaaDoor
