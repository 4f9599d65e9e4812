/- The ring of the base, as it should be: whoever looks, it stays. Two rings side by side. -/
import Derived.Test.YtkkkldglceiiiaaGreatChAwake
import Derived.Test.YtkkkldglceiiiaaGreatRingMath
import Derived.Test.YtkkkldglceiiiaaGreatPrInts
import Derived.Test.YtkkkldglceiiiaaGreatChRing
import Derived.Deep.CutBlock
import Derived.Deep.DeepCutAuto
import Derived.Test.YtkkkldglceiiiaaGreatOwnSrc
import Derived.Test.YtkkkldglceiiiaaGreatShelf
import Derived.Deep.QuietTactic
import Derived.BigQuiet
import Derived.Deep.LoopGhost
import Derived.Deep.RegionHeld3
import Derived.Deep.AppendLies
import Derived.Test.YtkkkldglceiiiaaGreatChCat
import Derived.Test.YtkkkldglceiiiaaGreatRing
import Derived.Test.YtkkkldglceiiiaaGreatTrBel2
import Derived.Test.YtkkkldglceiiiaaGreatTrOf
import Derived.Test.YtkkkldglceiiiaaGreatTrMath
import Derived.Test.YtkkkldglceiiiaaGreatSortTop
import Derived.Test.YtkkkldglceiiiaaGreatFam
import Derived.Test.YtkkkldglceiiiaaGreatTrRow
import Derived.Laws.Bits64
import Derived.Test.YtkkkldglceiiiaaGreatRows
import Derived.Test.YtkkkldglceiiiaaGreatAid
import Derived.LaidEql
import Derived.Stop.Asserts
import Derived.RowKitTokens
import Derived.WalkKit
import Derived.ProofKit
import Derived.OpenShut
import Derived.WalkLawsBesides
import Derived.Outline
set_option linter.unnecessarySimpa false
namespace Go.Proofs.YtkkkldglceiiiaaGreat
open Go.ChangeShapes Go.WideShapes Go.ChangeAt Go.RowKit Go.Deep
set_option linter.unusedVariables false

theorem setK_same {R : Rg} {n : Int} {p : Pe} (h : R.kn n = some p) : R.setK n p = R := by
  cases R with
  | mk pl kn cl =>
    simp only [Rg.setK]
    congr 1
    funext k
    simp only [upd]
    split
    · rename_i e; rw [e]; exact h.symm
    · rfl
theorem within_same (x b : Int) : withinB x x b = false := by simp [withinB]
theorem stab_same {R : Rg} {n s id id' pr a b x : Int} (h1 : R.kn n = some ⟨id, pr, [s, a, b]⟩) (h2 : R.kn s = some ⟨id', n, [a, b, x]⟩) (hs : 0 ≤ s) (hn : 0 ≤ n) (hi : R.idOf n = id) : R.stab n = R := by
  have ln : R.lives n = true := by simp [Rg.lives, h1]
  have ls : R.lives s = true := by simp [Rg.lives, h2]
  have vn : R.lv n = true := by simp [Rg.lv, ln]; omega
  have vs : R.lv s = true := by simp [Rg.lv, ls]; omega
  have kn : R.know n = ⟨id, pr, [s, a, b]⟩ := by simp [Rg.know, h1]
  have ks : R.know s = ⟨id', n, [a, b, x]⟩ := by simp [Rg.know, h2]
  have hh : R.head n = s := by simp [Rg.head, kn, headF, vs]
  have hx : R.next n = s := by
    unfold Rg.next
    rw [hh, ks, kn]
    have : R.near n id s = false := by simp [Rg.near, hi, within_same]
    simp [this]
  unfold Rg.stab
  rw [ln, if_pos rfl, hx]
  have hl : R.learn n s = R := by
    unfold Rg.learn
    rw [kn, ks]
    exact setK_same h1
  rw [hl]
  unfold Rg.tell
  rw [ks]
  have hr : R.rect id' n n = n := by unfold Rg.rect; split <;> rfl
  simp only [hr]
  exact setK_same h2
theorem stab_none {R : Rg} {n : Int} (h : R.kn n = none) : R.stab n = R := by simp [Rg.stab, Rg.lives, h]

theorem nodup_sub : ∀ (t l : List Int), t.Nodup → (∀ x, x ∈ t → x ∈ l) → t.length ≤ l.length
  | [], l, _, _ => Nat.zero_le _
  | a :: t, l, hp, hs => by
    have ha : a ∈ l := hs a (by simp)
    obtain ⟨h1, h2⟩ := List.nodup_cons.1 hp
    have ih := nodup_sub t (l.erase a) h2 (fun x hx => (List.mem_erase_of_ne (show x ≠ a from fun e => h1 (by rw [← e]; exact hx))).2 (hs x (List.mem_cons_of_mem _ hx)))
    have := List.length_erase_of_mem ha
    have : 0 < l.length := List.length_pos_of_mem ha
    simp only [List.length_cons]
    omega

/-- What is known of the circle of four places. -/
structure Circ (l C : List Int) (c0 c1 c2 c3 : Int) : Prop where
  eq : C = [c0, c1, c2, c3]
  nd : [c0, c1, c2, c3].Nodup
  rng : ∀ x ∈ [c0, c1, c2, c3], 0 ≤ x ∧ x < 4
  all : ∀ n : Int, 0 ≤ n → n < 4 → n ∈ [c0, c1, c2, c3]
theorem circ_of {l S : List Int} (hl : l.length = 4) (hp : S.Pairwise (· < ·)) (hm : ∀ x, x ∈ S ↔ x ∈ l) (h4 : S.length = 4) : ∃ c0 c1 c2 c3, Circ l (circleOf l S) c0 c1 c2 c3 := by
  match S, h4, hp with
  | [s0, s1, s2, s3], _, hp =>
    have hin : ∀ x ∈ [s0, s1, s2, s3], ix l x < 4 ∧ l.getD (ix l x) 0 = x := fun x hx => by
      have h := ix_spec ((hm x).1 hx)
      exact ⟨by rw [← hl]; exact h.1, h.2.1⟩
    have hinj : ∀ x ∈ [s0, s1, s2, s3], ∀ y ∈ [s0, s1, s2, s3], ix l x = ix l y → x = y := fun x hx y hy e => by
      rw [← (hin x hx).2, ← (hin y hy).2, e]
    have hnd : [s0, s1, s2, s3].Nodup := hp.imp (fun h => by omega)
    have nd : ([s0, s1, s2, s3].map fun x => (ix l x : Int)).Nodup := by
      rw [List.Nodup, List.pairwise_map]
      refine List.Pairwise.imp_of_mem ?_ hnd
      intro a b ha hb hab e
      exact hab (hinj a ha b hb (by omega))
    refine ⟨ix l s0, ix l s1, ix l s2, ix l s3, rfl, nd, ?_, fun n h0 h1 => ?_⟩
    · intro x hx
      have : x ∈ [s0, s1, s2, s3].map fun x => (ix l x : Int) := hx
      obtain ⟨y, hy, rfl⟩ := List.mem_map.1 this
      have := (hin y hy).1
      omega
    · apply Classical.byContradiction
      intro hn
      have h5 := nodup_sub (n :: [(ix l s0 : Int), ix l s1, ix l s2, ix l s3]) [0, 1, 2, 3] (List.nodup_cons.2 ⟨hn, nd⟩) (fun x hx => by
        rcases List.mem_cons.1 hx with rfl | hx
        · simp; omega
        · have : x ∈ [s0, s1, s2, s3].map fun x => (ix l x : Int) := hx
          obtain ⟨y, hy, rfl⟩ := List.mem_map.1 this
          have := (hin y hy).1
          simp; omega)
      simp at h5

section
variable {l C : List Int} {c0 c1 c2 c3 : Int}
theorem Circ.kn (h : Circ l C c0 c1 c2 c3) :
    (newTo l C 4).kn c0 = some ⟨l.getD c0.toNat 0, c3, [c1, c2, c3]⟩ ∧ (newTo l C 4).kn c1 = some ⟨l.getD c1.toNat 0, c0, [c2, c3, c0]⟩ ∧ (newTo l C 4).kn c2 = some ⟨l.getD c2.toNat 0, c1, [c3, c0, c1]⟩ ∧ (newTo l C 4).kn c3 = some ⟨l.getD c3.toNat 0, c2, [c0, c1, c2]⟩ ∧
    (newTo l C 4).idOf c0 = l.getD c0.toNat 0 ∧ (newTo l C 4).idOf c1 = l.getD c1.toNat 0 ∧ (newTo l C 4).idOf c2 = l.getD c2.toNat 0 ∧ (newTo l C 4).idOf c3 = l.getD c3.toNat 0 ∧ ∀ n, n ∉ [c0, c1, c2, c3] → (newTo l C 4).kn n = none := by
  obtain ⟨rfl, nd, _, _⟩ := h
  simp only [List.nodup_cons, List.mem_cons, List.not_mem_nil, or_false, not_or, not_false_eq_true, List.nodup_nil, and_true] at nd
  obtain ⟨⟨h01, h02, h03⟩, ⟨h12, h13⟩, h23⟩ := nd
  refine ⟨?_, ?_, ?_, ?_, ?_, ?_, ?_, ?_, fun n hn => ?_⟩
  · simp [newTo, Rg.setK, Rg.setP, upd, others, h01, h02, h03]
  · simp [newTo, Rg.setK, Rg.setP, upd, others, h12, h13]
  · simp [newTo, Rg.setK, Rg.setP, upd, others, h23]
  · simp [newTo, Rg.setK, Rg.setP, upd, others]
  · simp [newTo, Rg.setK, Rg.setP, upd, Rg.idOf, h01, h02, h03]
  · simp [newTo, Rg.setK, Rg.setP, upd, Rg.idOf, h12, h13]
  · simp [newTo, Rg.setK, Rg.setP, upd, Rg.idOf, h23]
  · simp [newTo, Rg.setK, Rg.setP, upd, Rg.idOf]
  · simp only [List.mem_cons, List.not_mem_nil, or_false, not_or] at hn
    simp [newTo, Rg.setK, Rg.setP, upd, rg0, hn.1, hn.2.1, hn.2.2.1, hn.2.2.2]
theorem Circ.stays (h : Circ l C c0 c1 c2 c3) (n : Int) : (newTo l C 4).stab n = newTo l C 4 := by
  obtain ⟨k0, k1, k2, k3, i0, i1, i2, i3, kn⟩ := h.kn
  have r := h.rng
  have r0 := r c0 (by simp)
  have r1 := r c1 (by simp)
  have r2 := r c2 (by simp)
  have r3 := r c3 (by simp)
  by_cases hn : n ∈ [c0, c1, c2, c3]
  · simp only [List.mem_cons, List.not_mem_nil, or_false] at hn
    rcases hn with rfl | rfl | rfl | rfl
    · exact stab_same k0 k1 r1.1 r0.1 i0
    · exact stab_same k1 k2 r2.1 r1.1 i1
    · exact stab_same k2 k3 r3.1 r2.1 i2
    · exact stab_same k3 k0 r0.1 r3.1 i3
  · exact stab_none (kn n hn)
theorem Circ.known (h : Circ l C c0 c1 c2 c3) (n : Int) (h0 : 0 ≤ n) (h1 : n < 4) : ∃ p, (newTo l C 4).kn n = some p ∧ p.succ.length = 3 := by
  obtain ⟨k0, k1, k2, k3, _⟩ := h.kn
  have hn := h.all n h0 h1
  simp only [List.mem_cons, List.not_mem_nil, or_false] at hn
  rcases hn with rfl | rfl | rfl | rfl
  · exact ⟨_, k0, rfl⟩
  · exact ⟨_, k1, rfl⟩
  · exact ⟨_, k2, rfl⟩
  · exact ⟨_, k3, rfl⟩
end

/-- The same ring, whose lists keep clear of other blocks. -/
def Rg.withCl (R : Rg) (D : Nat → Prop) : Rg := ⟨R.pl, R.kn, D⟩
/-- A block that was just made is one that the lists keep clear of. -/
theorem RingAt.fresh {w w' : World} {r gp gk : Nat} {R : Rg} (h : RingAt w r gp gk R) (hl : ∀ k p, R.kn k = some p → p.succ.length = 3) (hb : Below w.heap.size w w') {g : Nat} (hg : w.heap.size ≤ g) (hg2 : g < w'.heap.size) : RingAt w' r gp gk (R.withCl (fun b => b = g)) := by
  have h' := h.below hb
  obtain ⟨mk, hk, hk'⟩ := h.known
  refine ⟨h'.box, h'.ne, h'.places, ⟨mk, hk.of_block (hb.block gk hk.lt), fun k => ?_⟩, h'.ids, fun b e => by show b < _; rw [show b = g from e]; exact hg2⟩
  have q := hk' k
  show KnOk w' (fun b => b = g) (R.kn k) (look mk k)
  cases hp : R.kn k with
  | none =>
    cases hv : look mk k with
    | none => exact trivial
    | some v => rw [hp, hv] at q; exact q.elim
  | some p =>
    cases hv : look mk k with
    | none => rw [hp, hv] at q; exact q.elim
    | some v =>
      rw [hp, hv] at q
      obtain ⟨a, len, cap, e, hpe, hd⟩ := q
      refine ⟨a, len, cap, e, hpe.below (Nat.le_refl _) hb, fun x hx hc => ?_⟩
      have h3 := hl k p hp
      have h4 := hpe.row.1
      rcases hpe.row.2.2 with h0 | ⟨b, o, ha, hlt, _⟩
      · omega
      · rw [ha] at hx
        cases hx
        have : b = g := hc
        omega
/-- A store into such a block leaves the ring as it is. -/
theorem RingAt.own {w w' : World} {r gp gk g : Nat} {R : Rg} (h : RingAt w r gp gk R) (hs : w.heap.size ≤ w'.heap.size) (hb : ∀ b, b < w.heap.size → b ≠ g → w'.heap[b]? = w.heap[b]?) (hg : R.cl g) (h1 : r ≠ g) (h2 : gp ≠ g) (h3 : gk ≠ g) : RingAt w' r gp gk R := by
  obtain ⟨mp, hp, hp'⟩ := h.places
  obtain ⟨mk, hk, hk'⟩ := h.known
  have hl := h.lt
  refine ⟨(hb r hl.1 h1).trans h.box, h.ne, ⟨mp, hp.of_block (hb gp hl.2.1 h2), hp'⟩, ⟨mk, hk.of_block (hb gk hl.2.2 h3), fun k => ?_⟩, h.ids, fun b e => Nat.lt_of_lt_of_le (h.old b e) hs⟩
  have q := hk' k
  cases hp : R.kn k with
  | none =>
    cases hv : look mk k with
    | none => exact trivial
    | some v => rw [hp, hv] at q; exact q.elim
  | some p =>
    cases hv : look mk k with
    | none => rw [hp, hv] at q; exact q.elim
    | some v =>
      rw [hp, hv] at q
      obtain ⟨a, len, cap, e, hpe, hd⟩ := q
      refine ⟨a, len, cap, e, ⟨hpe.hid, hpe.hpred, ⟨hpe.row.1, hpe.row.2.1, ?_⟩, hpe.hcap, hpe.hmost, hpe.hnil⟩, hd⟩
      rcases hpe.row.2.2 with h0 | ⟨b, o, ha, hlt, hc⟩
      · exact .inl h0
      · have hbg : b ≠ g := fun e => hd _ ha (by show R.cl b; rw [e]; exact hg)
        refine .inr ⟨b, o, ha, Nat.lt_of_lt_of_le hlt hs, fun i hi => ⟨(hc i hi).1, fun j hj => ?_⟩⟩
        rw [World.cell?_of_block (hb b hlt hbg)]
        exact (hc i hi).2 j hj
/-- A ring beside one that is written. -/
theorem RingAt.beside {w w' : World} {r gp gk r2 gp2 gk2 : Nat} {R R2 : Rg} (h : RingAt w r2 gp2 gk2 R2) (h1 : RingAt w r gp gk R) (k : Kp w w' gp gk) (n1 : r2 ≠ gp ∧ r2 ≠ gk) (n2 : gp2 ≠ gp ∧ gp2 ≠ gk) (n3 : gk2 ≠ gp ∧ gk2 ≠ gk) : RingAt w' r2 gp2 gk2 R2 := by
  obtain ⟨mp, hp, hp'⟩ := h.places
  obtain ⟨mk, hk, hk'⟩ := h.known
  obtain ⟨mp1, hmp, _⟩ := h1.places
  obtain ⟨mk1, hmk, _⟩ := h1.known
  have hl := h.lt
  exact ⟨(k.block r2 hl.1 n1.1 n1.2).trans h.box, h.ne, ⟨mp, hp.of_block (k.block gp2 hl.2.1 n2.1 n2.2), hp'⟩, ⟨mk, hk.of_block (k.block gk2 hl.2.2 n3.1 n3.2), fun x => (hk' x).kp k hmp hmk⟩, h.ids, fun b hb => Nat.lt_of_lt_of_le (h.old b hb) k.size⟩
end Go.Proofs.YtkkkldglceiiiaaGreat

/- Calls of wigwaglaw10 that come in; what stays whoever looks. -/
namespace Go.Proofs.YtkkkldglceiiiaaGreat
open Go.ChangeShapes Go.WideShapes Go.ChangeAt Go.RowKit Go.Deep
set_option linter.unusedVariables false

/-- A call of wigwaglaw10's. -/
structure Ac10 where
  kind : Int
  n : Int
  via : Int
  id : Int
def ac100 : Ac10 := ⟨0, 0, 0, 0⟩
def Ac10.cells (t : Ac10) : List Value := [.int .i64 t.kind, .int .i64 t.n, .int .i64 t.via, .int .u64 t.id]
def Ac10.ok (t : Ac10) : Prop := i64 t.kind ∧ i64 t.n ∧ i64 t.via ∧ u64 t.id
theorem lenAc10 (s : Ac10) : s.cells.length = 4 := rfl
section
variable {H : Type} {enc' : TypeId × Value → H} {W : World}
theorem act_end : True := trivial
end
abbrev AcIn (w : World) (a : Option Addr) (len : Nat) (l : List Ac10) : Prop := InRow 4 Ac10.cells Ac10.ok ac100 w a len l
theorem AcIn.at {w : World} {a : Option Addr} {len : Nat} {l : List Ac10} (h : AcIn w a len l) {i : Nat} (hi : i < len) :
    ∃ b o, a = some ⟨b, o, none⟩ ∧ b < w.heap.size ∧ (l.getD i ac100).ok ∧ w.cell? ⟨b, o + i * 4, none⟩ = some (.int .i64 (l.getD i ac100).kind) ∧ w.cell? ⟨b, o + i * 4 + 1, none⟩ = some (.int .i64 (l.getD i ac100).n) ∧ w.cell? ⟨b, o + i * 4 + 2, none⟩ = some (.int .i64 (l.getD i ac100).via) ∧ w.cell? ⟨b, o + i * 4 + 3, none⟩ = some (.int .u64 (l.getD i ac100).id) := by
  rcases h.2.2 with h0 | ⟨b, o, ha, hlt, hc⟩
  · omega
  · have q := (hc i hi).2
    exact ⟨b, o, ha, hlt, (hc i hi).1, q 0 (by omega), q 1 (by omega), q 2 (by omega), q 3 (by omega)⟩

/-- The same ones live, at the same places. -/
def Alike (R R' : Rg) : Prop := (∀ n, 0 ≤ n → R'.lives n = R.lives n) ∧ R'.pl = R.pl
theorem Alike.refl (R : Rg) : Alike R R := ⟨fun _ _ => rfl, rfl⟩
theorem Alike.trans {A B C : Rg} (h : Alike A B) (h' : Alike B C) : Alike A C := ⟨fun n hn => (h'.1 n hn).trans (h.1 n hn), h'.2.trans h.2⟩
theorem head_lv (L : Int → Bool) (l : List Int) : headF L l = -1 ∨ L (headF L l) = true := by
  induction l with
  | nil => exact .inl rfl
  | cons a l ih =>
    cases h : L a
    · simp only [headF, h]; exact ih
    · simp only [headF, h]; exact .inr (by simp [h])
theorem next_lives (R : Rg) (n : Int) : R.next n = -1 ∨ R.lives (R.next n) = true := by
  have lv : ∀ x, R.lv x = true → R.lives x = true := fun x h => by simp only [Rg.lv, Bool.and_eq_true] at h; exact h.2
  unfold Rg.next
  split
  · rename_i h
    simp only [Rg.near, Bool.and_eq_true] at h
    exact .inr (lv _ h.1)
  · rcases head_lv R.lv (R.know n).succ with h | h
    · exact .inl h
    · exact .inr (lv _ h)
theorem lives_setK (R : Rg) (n : Int) (p : Pe) (x : Int) : (R.setK n p).lives x = if x = n then true else R.lives x := by
  simp only [Rg.lives, Rg.setK, upd]; split <;> simp
theorem stab_alike (R : Rg) (n : Int) : Alike R (R.stab n) := by
  unfold Rg.stab
  split
  · rename_i hl
    refine ⟨fun x hx => ?_, rfl⟩
    unfold Rg.tell Rg.learn
    rw [lives_setK, lives_setK]
    split
    · rename_i e
      rcases next_lives R n with h | h
      · omega
      · rw [e, h]
    · split
      · rename_i e; rw [e, hl]
      · rfl
  · exact Alike.refl R
theorem stab_lives (R : Rg) (n : Int) : (R.stab n).lives n = R.lives n := by
  unfold Rg.stab
  split
  · rename_i hl
    unfold Rg.tell Rg.learn
    rw [lives_setK, lives_setK]
    simp [hl]
  · rfl
theorem round_alike (R : Rg) : Alike R R.round := by
  unfold Rg.round
  generalize R.live = l
  induction l generalizing R with
  | nil => exact Alike.refl R
  | cons a l ih => exact (stab_alike R a).trans (ih (R.stab a))
theorem Alike.live {R R' : Rg} (h : Alike R R') : R'.live = R.live := by
  unfold Rg.live
  generalize 32 = k
  induction k with
  | zero => rfl
  | succ k ih =>
    unfold Rg.liveTo
    rw [h.1 k (by omega), ih]
theorem Alike.idOf {R R' : Rg} (h : Alike R R') (n : Int) : R'.idOf n = R.idOf n := by unfold Rg.idOf; rw [h.2]
end Go.Proofs.YtkkkldglceiiiaaGreat

/- What stays of a ring whatever the calls: the base, who went; how many live. -/
namespace Go.Proofs.YtkkkldglceiiiaaGreat
open Go.ChangeShapes Go.WideShapes Go.ChangeAt Go.RowKit Go.Deep
set_option linter.unusedVariables false

/-- Those that live have an address and a place, and the base lives. -/
structure Sane (R : Rg) : Prop where
  rng : ∀ n, R.lives n = true → n = -1 ∨ (0 ≤ n ∧ n < 32)
  pl : ∀ n, 0 ≤ n → R.lives n = true → (R.pl n).isSome = true
  base : ∀ n, 0 ≤ n → n < 4 → R.lives n = true

theorem live_other {R R' : Rg} {n : Int} (h : ∀ x, x ≠ n → R'.lives x = R.lives x) (k : Nat) (hk : (k : Int) ≤ n) : R'.liveTo k = R.liveTo k := by
  induction k with
  | zero => rfl
  | succ k ih =>
    unfold Rg.liveTo
    rw [h k (by omega), ih (by omega)]
theorem live_neg {R R' : Rg} {n : Int} (h : ∀ x, x ≠ n → R'.lives x = R.lives x) (hn : n < 0) (k : Nat) : R'.liveTo k = R.liveTo k := by
  induction k with
  | zero => rfl
  | succ k ih =>
    unfold Rg.liveTo
    rw [h k (by omega), ih]
theorem live_up {R R' : Rg} {n : Int} (h : ∀ x, x ≠ n → R'.lives x = R.lives x) (h0 : R.lives n = false) (h1 : R'.lives n = true) (hn : 0 ≤ n) (k : Nat) (hk : n < k) : (R'.liveTo k).length = (R.liveTo k).length + 1 := by
  induction k with
  | zero => omega
  | succ k ih =>
    by_cases e : n = k
    · subst e
      unfold Rg.liveTo
      rw [h0, h1, live_other h k (by omega)]
      simp
    · have := ih (by omega)
      unfold Rg.liveTo
      rw [h k (fun q => e q.symm)]
      split
      · simp [this]
      · exact this

theorem joinC_zero {R : Rg} {n id via : Int} (h : R.joinC n id via = 0) : 0 ≤ n ∧ n < 32 ∧ R.pl n = none := by
  unfold Rg.joinC at h
  by_cases q : n < 0 ∨ 32 ≤ n
  · rw [if_pos q] at h; cases h
  · rw [if_neg q] at h
    refine ⟨by omega, by omega, ?_⟩
    cases hp : R.pl n with
    | none => rfl
    | some x => rw [hp] at h; simp at h
theorem failC_zero {R : Rg} {n : Int} (h : R.failC n = 0) : R.lives n = true ∧ 4 ≤ n := by
  unfold Rg.failC at h
  cases hl : R.lives n
  · rw [hl] at h; simp at h
  · rw [hl] at h
    by_cases q : n < 4 ∨ R.needed n = true
    · simp [q] at h
    · exact ⟨rfl, by omega⟩
theorem lives_delK (R : Rg) (n x : Int) : (R.delK n).lives x = if x = n then false else R.lives x := by
  simp only [Rg.lives, Rg.delK, upd]; split <;> simp
theorem lives_joined (R : Rg) (n id y x : Int) : (R.joined n id y).lives x = if x = n then true else R.lives x := by
  unfold Rg.joined; rw [lives_setK]; rfl
theorem pl_joined (R : Rg) (n id y x : Int) : (R.joined n id y).pl x = if x = n then some id else R.pl x := rfl

theorem Sane.join {R : Rg} (h : Sane R) (n id via : Int) : Sane (R.join n id via) ∧ ((R.join n id via).live.length = R.live.length + if R.joinC n id via = 0 then 1 else 0) ∧ (∀ x, (R.pl x).isSome = true → ((R.join n id via).pl x).isSome = true ∧ ((R.join n id via).lives x = R.lives x)) := by
  unfold Rg.join
  by_cases q : R.joinC n id via = 0
  · rw [if_pos q, if_pos q]
    obtain ⟨h0, h1, h2⟩ := joinC_zero q
    have hln : R.lives n = false := by
      cases hl : R.lives n
      · rfl
      · have := h.pl n h0 hl; rw [h2] at this; cases this
    refine ⟨⟨fun x hx => ?_, fun x hx0 hx => ?_, fun x hx0 hx1 => ?_⟩, ?_, fun x hx => ⟨?_, ?_⟩⟩
    · rw [lives_joined] at hx
      split at hx
      · rename_i e; exact .inr (by omega)
      · exact h.rng x hx
    · rw [lives_joined] at hx
      rw [pl_joined]
      split
      · rfl
      · rename_i e; rw [if_neg e] at hx; exact h.pl x hx0 hx
    · rw [lives_joined]
      split
      · rfl
      · exact h.base x hx0 hx1
    · exact live_up (fun x hx => by rw [lives_joined, if_neg hx]) hln (by rw [lives_joined, if_pos rfl]) h0 32 (by omega)
    · rw [pl_joined]; split
      · rfl
      · exact hx
    · rw [lives_joined]; split
      · rename_i e; rw [e, h2] at hx; cases hx
      · rfl
  · rw [if_neg q, if_neg q]
    exact ⟨h, rfl, fun x hx => ⟨hx, rfl⟩⟩
theorem Sane.fail {R : Rg} (h : Sane R) (n : Int) : Sane (R.fail n) ∧ ((R.fail n).live.length + (if R.failC n = 0 then 1 else 0) = R.live.length) ∧ (R.fail n).pl = R.pl ∧ (∀ x, R.lives x = false → (R.fail n).lives x = false) ∧ (R.failC n = 0 → (R.fail n).lives n = false ∧ 4 ≤ n ∧ n < 32 ∧ (R.pl n).isSome = true) := by
  unfold Rg.fail
  by_cases q : R.failC n = 0
  · rw [if_pos q, if_pos q]
    obtain ⟨h0, h1⟩ := failC_zero q
    have hr := h.rng n h0
    refine ⟨⟨fun x hx => ?_, fun x hx0 hx => ?_, fun x hx0 hx1 => ?_⟩, ?_, rfl, fun x hx => ?_, fun _ => ⟨by rw [lives_delK, if_pos rfl], h1, by omega, h.pl n (by omega) h0⟩⟩
    · rw [lives_delK] at hx; split at hx
      · cases hx
      · exact h.rng x hx
    · rw [lives_delK] at hx; split at hx
      · cases hx
      · exact h.pl x hx0 hx
    · rw [lives_delK, if_neg (by omega)]; exact h.base x hx0 hx1
    · exact (live_up (R := R.delK n) (R' := R) (n := n) (fun x hx => by rw [lives_delK, if_neg hx]) (by rw [lives_delK, if_pos rfl]) h0 (by omega) 32 (by omega)).symm
    · rw [lives_delK]; split
      · rfl
      · exact hx
  · rw [if_neg q, if_neg q]
    exact ⟨h, rfl, rfl, fun x hx => hx, fun e => absurd e q⟩
theorem stab_range {R : Rg} (h : Sane R) (n : Int) (x : Int) (hx : (R.stab n).lives x = true) : x = -1 ∨ R.lives x = true := by
  unfold Rg.stab at hx
  split at hx
  · rename_i hl
    unfold Rg.tell Rg.learn at hx
    rw [lives_setK, lives_setK] at hx
    split at hx
    · rename_i e
      rcases next_lives R n with q | q
      · exact .inl (e.trans q)
      · exact .inr (by rw [e]; exact q)
    · split at hx
      · rename_i e; exact .inr (by rw [e]; exact hl)
      · exact .inr hx
  · exact .inr hx
theorem Sane.stab {R : Rg} (h : Sane R) (n : Int) : Sane (R.stab n) := by
  have ha := stab_alike R n
  refine ⟨fun x hx => ?_, fun x hx0 hx => ?_, fun x hx0 hx1 => ?_⟩
  · rcases stab_range h n x hx with e | e
    · exact .inl e
    · exact h.rng x e
  · rw [ha.2]; rw [ha.1 x hx0] at hx; exact h.pl x hx0 hx
  · rw [ha.1 x hx0]; exact h.base x hx0 hx1
theorem Sane.round {R : Rg} (h : Sane R) : Sane R.round := by
  unfold Rg.round
  generalize R.live = l
  induction l generalizing R with
  | nil => exact h
  | cons a l ih => exact ih (h.stab a)
theorem Circ.sane {l C : List Int} {c0 c1 c2 c3 : Int} (h : Circ l C c0 c1 c2 c3) (hp : ∀ n, 0 ≤ n → (newTo l C 4).lives n = true → ((newTo l C 4).pl n).isSome = true) : Sane (newTo l C 4) := by
  obtain ⟨k0, k1, k2, k3, _, _, _, _, kn⟩ := h.kn
  refine ⟨fun n hn => ?_, hp, fun n h0 h1 => ?_⟩
  · by_cases hm : n ∈ [c0, c1, c2, c3]
    · have := h.rng n hm; exact .inr (by omega)
    · have := kn n hm
      simp [Rg.lives, this] at hn
  · obtain ⟨p, e, _⟩ := h.known n h0 h1
    simp [Rg.lives, e]
theorem newTo_pl (l C : List Int) (k : Nat) (n : Int) : (newTo l C k).lives n = true → ((newTo l C k).pl n).isSome = true := by
  induction k with
  | zero => intro h; cases h
  | succ k ih =>
    rw [newTo_succ, lives_setK]
    intro h
    simp only [Rg.setK, Rg.setP, upd]
    split
    · rfl
    · rename_i e
      rw [if_neg e] at h
      exact ih h
theorem cl_join (R : Rg) (n id via : Int) : (R.join n id via).cl = R.cl := by unfold Rg.join; split <;> rfl
theorem cl_fail (R : Rg) (n : Int) : (R.fail n).cl = R.cl := by unfold Rg.fail; split <;> rfl
theorem cl_stab (R : Rg) (n : Int) : (R.stab n).cl = R.cl := by unfold Rg.stab; split <;> rfl
theorem cl_round (R : Rg) : R.round.cl = R.cl := by
  unfold Rg.round
  generalize R.live = l
  induction l generalizing R with
  | nil => rfl
  | cons a l ih => exact (ih (R.stab a)).trans (cl_stab R a)
end Go.Proofs.YtkkkldglceiiiaaGreat

/- Arcs of the circle on which no base place lies; ranks by a distance. No program in sight. -/
namespace Go.Proofs.YtkkkldglceiiiaaGreat
set_option linter.unusedVariables false

/-- A place. -/
def Plc (x : Int) : Prop := 0 ≤ x ∧ x ≤ 18446744073709551615
theorem dist_tri (a b c : Int) : dist a c = dist a b + dist b c ∨ dist a c = dist a b + dist b c - 18446744073709551616 := by unfold dist; omega
theorem dist_zero {a b : Int} (ha : Plc a) (hb : Plc b) : dist a b = 0 ↔ a = b := by
  unfold Plc at *
  constructor
  · intro h; unfold dist at h; omega
  · intro h; subst h; exact dist_self a
theorem dist_inj {a b c : Int} (hb : Plc b) (hc : Plc c) (h : dist a b = dist a c) : b = c := by unfold Plc at *; unfold dist at h; omega
theorem dist_injR {a b c : Int} (ha : Plc a) (hb : Plc b) (h : dist a c = dist b c) : a = b := by unfold Plc at *; unfold dist at h; omega
theorem within_iff {x a b : Int} (hx : Plc x) (ha : Plc a) (hb : Plc b) : withinB x a b = true ↔ dist a x ≠ 0 ∧ (dist a b = 0 ∨ dist a x < dist a b) := by
  have e1 := dist_zero ha hx
  have e2 := dist_zero ha hb
  simp only [withinB, Bool.and_eq_true, bne_iff_ne, Bool.or_eq_true, beq_iff_eq, decide_eq_true_eq, ne_eq, e1, e2]
  constructor
  · rintro ⟨h1, h2⟩; exact ⟨fun e => h1 e.symm, h2⟩
  · rintro ⟨h1, h2⟩; exact ⟨fun e => h1 e.symm, h2⟩
theorem within_not {x a b : Int} (hx : Plc x) (ha : Plc a) (hb : Plc b) : withinB x a b = false ↔ dist a x = 0 ∨ (dist a b ≠ 0 ∧ dist a b ≤ dist a x) := by
  have h := within_iff hx ha hb
  cases hw : withinB x a b
  · rw [hw] at h
    simp only [true_iff]
    have h2 : ¬ (dist a x ≠ 0 ∧ (dist a b = 0 ∨ dist a x < dist a b)) := fun q => by have := h.2 q; cases this
    omega
  · rw [hw] at h
    have h2 := h.1 rfl
    constructor
    · intro e; cases e
    · intro e; omega

/-- No base place lies between. -/
def NS (id : Int → Int) (a b : Int) : Prop := ∀ i, 0 ≤ i → i < 4 → withinB (id i) a b = false

section
variable {id : Int → Int} (hid : ∀ i, Plc (id i))
include hid
theorem ns_trans {a m b : Int} (ha : Plc a) (hm : Plc m) (hb : Plc b) (h1 : NS id a m) (h2 : NS id m b) (hne : ∀ i, 0 ≤ i → i < 4 → id i ≠ m) : NS id a b := by
  intro i h0 h4
  have q1 := (within_not (hid i) ha hm).1 (h1 i h0 h4)
  have q2 := (within_not (hid i) hm hb).1 (h2 i h0 h4)
  rw [within_not (hid i) ha hb]
  have z : dist m (id i) ≠ 0 := fun e => hne i h0 h4 ((dist_zero hm (hid i)).1 e).symm
  have t1 := dist_tri a m (id i)
  have t2 := dist_tri a m b
  have r1 := dist_rng a m
  have r2 := dist_rng m b
  have r3 := dist_rng a b
  have r4 := dist_rng m (id i)
  have r5 := dist_rng a (id i)
  omega
theorem ns_ne (h01 : id 0 ≠ id 1) {a b : Int} (ha : Plc a) (hb : Plc b) (h : NS id a b) : dist a b ≠ 0 := by
  intro e
  have q0 := (within_not (hid 0) ha hb).1 (h 0 (by omega) (by omega))
  have q1 := (within_not (hid 1) ha hb).1 (h 1 (by omega) (by omega))
  have z0 := (dist_zero ha (hid 0))
  have z1 := (dist_zero ha (hid 1))
  have e0 : a = id 0 := z0.1 (by omega)
  have e1 : a = id 1 := z1.1 (by omega)
  exact h01 (e0.symm.trans e1)
theorem ns_near {a b q : Int} (ha : Plc a) (hb : Plc b) (hq : Plc q) (h : NS id a b) (hw : withinB q a b = true) : NS id a q := by
  intro i h0 h4
  have q1 := (within_not (hid i) ha hb).1 (h i h0 h4)
  have q2 := (within_iff hq ha hb).1 hw
  rw [within_not (hid i) ha hq]
  omega
theorem ns_mid (h01 : id 0 ≠ id 1) {a h c : Int} (ha : Plc a) (hh : Plc h) (hc : Plc c) (hn : NS id a h) (hw : withinB c a h = true) : NS id c h := by
  intro i h0 h4
  have q1 := (within_not (hid i) ha hh).1 (hn i h0 h4)
  have q2 := (within_iff hc ha hh).1 hw
  have z := ns_ne hid h01 ha hh hn
  rw [within_not (hid i) hc hh]
  have t1 := dist_tri a c (id i)
  have t2 := dist_tri a c h
  have r1 := dist_rng a c
  have r2 := dist_rng c h
  have r3 := dist_rng a h
  have r4 := dist_rng c (id i)
  have r5 := dist_rng a (id i)
  omega
/-- Who goes on without skipping a base place comes nearer to each of them. -/
theorem toward (h01 : id 0 ≠ id 1) {c h : Int} (hc : Plc c) (hh : Plc h) (hn : NS id c h) {i : Int} (h0 : 0 ≤ i) (h4 : i < 4) (hne : c ≠ id i) : dist h (id i) < dist c (id i) ∧ dist c (id i) = dist c h + dist h (id i) := by
  have q1 := (within_not (hid i) hc hh).1 (hn i h0 h4)
  have z := ns_ne hid h01 hc hh hn
  have z1 : dist c (id i) ≠ 0 := fun e => hne ((dist_zero hc (hid i)).1 e)
  have t1 := dist_tri c h (id i)
  have r1 := dist_rng c h
  have r2 := dist_rng h (id i)
  have r3 := dist_rng c (id i)
  omega
end

/-- Between, told by the distances to a place further on. -/
theorem between_iff {y c s b : Int} (hy : Plc y) (hc : Plc c) (hs : Plc s) (hb : Plc b) (h : dist s b < dist c b) : withinB y c s = true ↔ dist s b < dist y b ∧ dist y b < dist c b := by
  rw [within_iff hy hc hs]
  have t1 := dist_tri c s b
  have t2 := dist_tri c y b
  have r1 := dist_rng c s
  have r2 := dist_rng s b
  have r3 := dist_rng c b
  have r4 := dist_rng c y
  have r5 := dist_rng y b
  constructor
  · rintro ⟨h1, h2⟩; omega
  · rintro ⟨h1, h2⟩
    constructor
    · intro e; omega
    · omega

/-- The lists' members that live go on without skipping a base place. -/
def Chain (lv : Int → Bool) (id : Int → Int) : Int → List Int → Prop
  | _, [] => True
  | a, x :: l => if lv x = true then NS id a (id x) ∧ Chain lv id (id x) l else Chain lv id a l

theorem chain_take {lv : Int → Bool} {id : Int → Int} {a : Int} {l : List Int} (h : Chain lv id a l) (k : Nat) : Chain lv id a (l.take k) := by
  induction l generalizing a k with
  | nil => simp; exact h
  | cons x l ih =>
    cases k with
    | zero => exact trivial
    | succ k =>
      simp only [List.take_succ_cons, Chain] at h ⊢
      split
      · rename_i e; rw [if_pos e] at h; exact ⟨h.1, ih h.2 k⟩
      · rename_i e; rw [if_neg e] at h; exact ih h k
theorem chain_congr {lv lv' : Int → Bool} {id id' : Int → Int} {a : Int} {l : List Int} (h : Chain lv id a l) (hb : ∀ i, 0 ≤ i → i < 4 → id' i = id i) (hm : ∀ x ∈ l, lv' x = lv x ∧ id' x = id x) : Chain lv' id' a l := by
  induction l generalizing a with
  | nil => exact trivial
  | cons x l ih =>
    have hx := hm x (by simp)
    have hn : ∀ a b, NS id a b → NS id' a b := fun a b q i h0 h4 => by rw [hb i h0 h4]; exact q i h0 h4
    simp only [Chain] at h ⊢
    rw [hx.1, hx.2]
    split
    · rename_i e; rw [if_pos e] at h; exact ⟨hn _ _ h.1, ih h.2 (fun y hy => hm y (by simp [hy]))⟩
    · rename_i e; rw [if_neg e] at h; exact ih h (fun y hy => hm y (by simp [hy]))
/-- Another beginning, from which the first one that lives is as well met. -/
theorem chain_from {lv : Int → Bool} {id : Int → Int} {a a' : Int} {l : List Int} (h : Chain lv id a l) (ha : ∀ x ∈ l, lv x = true → NS id a (id x) → NS id a' (id x)) : Chain lv id a' l := by
  induction l with
  | nil => exact trivial
  | cons x l ih =>
    simp only [Chain] at h ⊢
    split
    · rename_i e; rw [if_pos e] at h; exact ⟨ha x (by simp) e h.1, h.2⟩
    · rename_i e; rw [if_neg e] at h; exact ih h (fun y hy => ha y (by simp [hy]))
theorem chain_del {lv : Int → Bool} {id : Int → Int} (hid : ∀ i, Plc (id i)) {d a : Int} {l : List Int} (ha : Plc a) (hd : ∀ i, 0 ≤ i → i < 4 → id i ≠ id d) (h : Chain lv id a l) : Chain (fun x => if x = d then false else lv x) id a l := by
  induction l generalizing a with
  | nil => exact trivial
  | cons x l ih =>
    simp only [Chain] at h ⊢
    by_cases e : x = d
    · subst e
      simp only [if_true]
      rw [if_neg (by simp)]
      by_cases e2 : lv x = true
      · rw [if_pos e2] at h
        exact chain_from (ih (hid x) h.2) (fun y hy _ hn => ns_trans hid ha (hid x) (hid y) h.1 hn hd)
      · rw [if_neg e2] at h; exact ih ha h
    · simp only [if_neg e]
      split
      · rename_i e2; rw [if_pos e2] at h; exact ⟨h.1, ih (hid x) h.2⟩
      · rename_i e2; rw [if_neg e2] at h; exact ih ha h

/-- How many lie below a distance. -/
def rkL (L : List Int) (d : Int → Int) (v : Int) : Nat := (L.filter fun y => decide (d y < v)).length
theorem rkL_len (L : List Int) (d : Int → Int) (v : Int) : rkL L d v ≤ L.length := List.length_filter_le _ _
theorem rkL_mono (L : List Int) (d : Int → Int) {u v : Int} (h : u ≤ v) : rkL L d u ≤ rkL L d v := by
  unfold rkL
  induction L with
  | nil => simp
  | cons a L ih =>
    simp only [List.filter_cons]
    by_cases h1 : d a < u
    · have h2 : d a < v := by omega
      simp [h1, h2]; exact ih
    · by_cases h2 : d a < v
      · simp [h1, h2]; omega
      · simp [h1, h2]; exact ih
theorem rkL_lt {L : List Int} {d : Int → Int} {u v y : Int} (hy : y ∈ L) (h1 : u ≤ d y) (h2 : d y < v) : rkL L d u < rkL L d v := by
  induction L with
  | nil => cases hy
  | cons a L ih =>
    have hm := rkL_mono L d (u := u) (v := v) (by omega)
    unfold rkL at *
    simp only [List.filter_cons]
    rcases List.mem_cons.1 hy with e | hy
    · subst e
      have h3 : ¬ d y < u := by omega
      simp [h2, h3]; omega
    · have := ih hy
      by_cases h3 : d a < u
      · have h4 : d a < v := by omega
        simp [h3, h4]; exact this
      · by_cases h4 : d a < v
        · simp [h3, h4]; omega
        · simp [h3, h4]; exact this
theorem max_of (l : List Int) (d : Int → Int) (h : l ≠ []) : ∃ y ∈ l, ∀ z ∈ l, d z ≤ d y := by
  induction l with
  | nil => exact absurd rfl h
  | cons a l ih =>
    by_cases e : l = []
    · subst e; exact ⟨a, by simp, fun z hz => by simp at hz; subst hz; omega⟩
    · obtain ⟨y, hy, hm⟩ := ih e
      by_cases q : d a ≤ d y
      · exact ⟨y, by simp [hy], fun z hz => by rcases List.mem_cons.1 hz with e | hz; subst e; exact q; exact hm z hz⟩
      · exact ⟨a, by simp, fun z hz => by rcases List.mem_cons.1 hz with e | hz; subst e; omega; have := hm z hz; omega⟩
theorem min_of (l : List Int) (d : Int → Int) (h : l ≠ []) : ∃ y ∈ l, ∀ z ∈ l, d y ≤ d z := by
  obtain ⟨y, hy, hm⟩ := max_of l (fun x => - d x) h
  exact ⟨y, hy, fun z hz => by have := hm z hz; omega⟩
theorem len_split {L : List Int} {p q : Int → Bool} {y : Int} (hn : L.Nodup) (hy : y ∈ L) (h : ∀ z ∈ L, z ≠ y → p z = q z) (hp : p y = true) (hq : q y = false) : (L.filter p).length = (L.filter q).length + 1 := by
  induction L with
  | nil => cases hy
  | cons a L ih =>
    obtain ⟨h1, h2⟩ := List.nodup_cons.1 hn
    simp only [List.filter_cons]
    rcases List.mem_cons.1 hy with e | hy
    · subst e
      have e : L.filter p = L.filter q := List.filter_congr (fun z hz => h z (by simp [hz]) (fun e => h1 (by rw [← e]; exact hz)))
      simp [hp, hq, e]
    · have hne : a ≠ y := fun e => h1 (by rw [e]; exact hy)
      have := ih h2 hy (fun z hz => h z (by simp [hz]))
      rw [h a (by simp) hne]
      split
      · simp [this]
      · exact this
theorem rkL_step {L : List Int} {d : Int → Int} {v : Int} (hn : L.Nodup) (hinj : ∀ x ∈ L, ∀ y ∈ L, d x = d y → x = y) (h : rkL L d v ≠ 0) : ∃ y ∈ L, d y < v ∧ rkL L d (d y) + 1 = rkL L d v := by
  have hne : (L.filter fun y => decide (d y < v)) ≠ [] := fun e => h (by unfold rkL; rw [e]; rfl)
  obtain ⟨y, hy, hm⟩ := max_of _ d hne
  obtain ⟨hy1, hy2⟩ := List.mem_filter.1 hy
  have hy3 : d y < v := by simpa using hy2
  refine ⟨y, hy1, hy3, ?_⟩
  unfold rkL
  refine (len_split hn hy1 (fun z hz hzy => ?_) (by simpa using hy3) (by simp)).symm
  by_cases q : d z < v
  · have h1 : d z ≤ d y := hm z (List.mem_filter.2 ⟨hz, by simpa using q⟩)
    have h2 : d z ≠ d y := fun e => hzy (hinj z hz y hy1 e)
    have h3 : d z < d y := by omega
    simp [q, h3]
  · have h3 : ¬ d z < d y := by omega
    simp [q, h3]
end Go.Proofs.YtkkkldglceiiiaaGreat

/- What holds of a ring always: each member has a head, no list skips a base member. No program in sight. -/
namespace Go.Proofs.YtkkkldglceiiiaaGreat
set_option linter.unusedVariables false

structure Inv (R : Rg) : Prop where
  rng : ∀ n, R.lives n = true → 0 ≤ n ∧ n < 32
  base : ∀ n, 0 ≤ n → n < 4 → R.lives n = true
  pl : ∀ n, R.lives n = true → (R.pl n).isSome = true
  u : ∀ n, Plc (R.idOf n)
  id : ∀ n, R.lives n = true → (R.know n).id = R.idOf n
  inj : ∀ n m, R.lives n = true → R.lives m = true → R.idOf n = R.idOf m → n = m
  len : ∀ n, R.lives n = true → (R.know n).succ.length = 3
  mem : ∀ n, R.lives n = true → ∀ x ∈ (R.know n).succ, (R.pl x).isSome = true
  hd : ∀ n, R.lives n = true → ∃ x ∈ (R.know n).succ, R.lives x = true
  ch : ∀ n, R.lives n = true → Chain R.lives R.idOf (R.idOf n) (R.know n).succ

theorem Inv.withCl {R : Rg} (h : Inv R) (D : Nat → Prop) : Inv (R.withCl D) := ⟨h.rng, h.base, h.pl, h.u, h.id, h.inj, h.len, h.mem, h.hd, h.ch⟩
theorem Inv.lens {R : Rg} (h : Inv R) (k : Int) (p : Pe) (hk : R.kn k = some p) : p.succ.length = 3 := by
  have := h.len k (by simp [Rg.lives, hk])
  simpa [Rg.know, hk] using this
theorem Inv.lv {R : Rg} (h : Inv R) : R.lv = R.lives := by
  funext n
  unfold Rg.lv
  cases hl : R.lives n
  · simp
  · have := h.rng n hl
    have e : (n != -1) = true := by simp; omega
    rw [e]; rfl
theorem Inv.h01 {R : Rg} (h : Inv R) : R.idOf 0 ≠ R.idOf 1 := fun e => by
  have := h.inj 0 1 (h.base 0 (by omega) (by omega)) (h.base 1 (by omega) (by omega)) e
  omega
theorem headF_spec {L : Int → Bool} {l : List Int} (h : ∃ x ∈ l, L x = true) : L (headF L l) = true ∧ headF L l ∈ l := by
  induction l with
  | nil => obtain ⟨x, hx, _⟩ := h; cases hx
  | cons a l ih =>
    by_cases e : L a = true
    · simp [headF, e]
    · obtain ⟨x, hx, hl⟩ := h
      rcases List.mem_cons.1 hx with q | q
      · subst q; exact absurd hl e
      · have := ih ⟨x, q, hl⟩
        simp only [headF, e]
        exact ⟨this.1, List.mem_cons_of_mem _ this.2⟩
theorem headF_none {L : Int → Bool} {l : List Int} (h : ∀ y ∈ l, L y = false) : headF L l = -1 := by
  induction l with
  | nil => rfl
  | cons a l ih => simp only [headF, h a (by simp)]; exact ih (fun y hy => h y (by simp [hy]))
theorem chain_head {lv : Int → Bool} {id : Int → Int} {a : Int} {l : List Int} (h : Chain lv id a l) (hx : ∃ x ∈ l, lv x = true) : NS id a (id (headF lv l)) := by
  induction l with
  | nil => obtain ⟨x, hx, _⟩ := hx; cases hx
  | cons b l ih =>
    simp only [Chain, headF] at h ⊢
    by_cases e : lv b = true
    · rw [if_pos e] at h ⊢; exact h.1
    · rw [if_neg e] at h ⊢
      obtain ⟨x, hx, hl⟩ := hx
      rcases List.mem_cons.1 hx with q | q
      · subst q; exact absurd hl e
      · exact ih h ⟨x, q, hl⟩
/-- The head of a member lives, and no base place lies between. -/
theorem Inv.head {R : Rg} (h : Inv R) {n : Int} (hn : R.lives n = true) : R.lives (R.head n) = true ∧ NS R.idOf (R.idOf n) (R.idOf (R.head n)) := by
  unfold Rg.head
  rw [h.lv]
  exact ⟨(headF_spec (h.hd n hn)).1, chain_head (h.ch n hn) (h.hd n hn)⟩
theorem Inv.apart {R : Rg} (h : Inv R) {n m : Int} (hq : NS R.idOf (R.idOf n) (R.idOf m)) : m ≠ n := fun e => by
  subst e
  exact ns_ne h.u h.h01 (h.u _) (h.u _) hq (dist_self _)
/-- Whom a member takes for the next one lives, lies ahead, and is its head or nearer. -/
theorem Inv.next {R : Rg} (h : Inv R) {n : Int} (hn : R.lives n = true) :
    R.lives (R.next n) = true ∧ NS R.idOf (R.idOf n) (R.idOf (R.next n)) ∧ R.next n ≠ n ∧
    (R.next n = R.head n ∨ (R.next n = (R.know (R.head n)).pred ∧ withinB (R.idOf (R.next n)) (R.idOf n) (R.idOf (R.head n)) = true)) := by
  obtain ⟨h1, h2⟩ := h.head hn
  by_cases e : R.near (R.know (R.head n)).pred (R.know n).id (R.head n) = true
  · have hx : R.next n = (R.know (R.head n)).pred := by unfold Rg.next; rw [if_pos e]
    rw [hx]
    simp only [Rg.near, Bool.and_eq_true, h.lv, h.id n hn] at e
    have q := ns_near h.u (h.u n) (h.u _) (h.u _) h2 e.2.2
    exact ⟨e.1, q, h.apart q, .inr ⟨rfl, e.2.2⟩⟩
  · have hx : R.next n = R.head n := by unfold Rg.next; rw [if_neg e]
    rw [hx]
    exact ⟨h1, h2, h.apart h2, .inl rfl⟩
/-- Is whom the head takes for its Pred nearer, it is the next one. -/
theorem Inv.next_near {R : Rg} (h : Inv R) {n : Int} (hn : R.lives n = true) (hq : R.lives (R.know (R.head n)).pred = true) (hw : withinB (R.idOf (R.know (R.head n)).pred) (R.idOf n) (R.idOf (R.head n)) = true) : R.next n = (R.know (R.head n)).pred := by
  unfold Rg.next
  rw [if_pos]
  have := (h.rng _ (h.head hn).1).1
  simp only [Rg.near, Bool.and_eq_true, h.lv, h.id n hn]
  refine ⟨hq, ?_, hw⟩
  simp; omega

theorem know_setK (R : Rg) (n : Int) (p : Pe) (x : Int) : (R.setK n p).know x = if x = n then p else R.know x := by
  simp only [Rg.know, Rg.setK, upd]; split <;> rfl

/-- What one look does. -/
structure Stp (R R' : Rg) (n s : Int) : Prop where
  lives : ∀ x, R'.lives x = R.lives x
  pl : R'.pl = R.pl
  one : R'.know n = ⟨(R.know n).id, (R.know n).pred, s :: (R.know s).succ.take 2⟩
  two : R'.know s = ⟨(R.know s).id, R.rect (R.know s).id (R.know s).pred n, (R.know s).succ⟩
  rest : ∀ x, x ≠ n → x ≠ s → R'.know x = R.know x
theorem Inv.look {R : Rg} (h : Inv R) {n : Int} (hn : R.lives n = true) : Stp R (R.stab n) n (R.next n) := by
  obtain ⟨h1, h2, h3, h4⟩ := h.next hn
  generalize hs : R.next n = s at h1 h2 h3 h4
  have hst : R.stab n = (R.learn n s).tell s n := by unfold Rg.stab; rw [if_pos hn, hs]
  have hlv : ∀ x, (R.learn n s).lives x = R.lives x := fun x => by
    unfold Rg.learn; rw [lives_setK]
    split
    · rename_i e; rw [e, hn]
    · rfl
  have hks : (R.learn n s).know s = R.know s := by unfold Rg.learn; rw [know_setK, if_neg h3]
  have hrc : ∀ a b c, (R.learn n s).rect a b c = R.rect a b c := fun a b c => by
    unfold Rg.rect Rg.lv; rw [hlv b]; rfl
  rw [hst]
  refine ⟨fun x => ?_, rfl, ?_, ?_, fun x x1 x2 => ?_⟩
  · unfold Rg.tell; rw [lives_setK]
    split
    · rename_i e; rw [e, h1]
    · exact hlv x
  · unfold Rg.tell; rw [know_setK, if_neg (Ne.symm h3)]
    unfold Rg.learn; rw [know_setK, if_pos rfl]
  · unfold Rg.tell; rw [know_setK, if_pos rfl, hks, hrc]
  · unfold Rg.tell; rw [know_setK, if_neg x2]
    unfold Rg.learn; rw [know_setK, if_neg x1]
theorem Stp.idOf {R R' : Rg} {n s : Int} (h : Stp R R' n s) (x : Int) : R'.idOf x = R.idOf x := by unfold Rg.idOf; rw [h.pl]
theorem Stp.livesF {R R' : Rg} {n s : Int} (h : Stp R R' n s) : R'.lives = R.lives := funext h.lives
theorem Stp.idF {R R' : Rg} {n s : Int} (h : Stp R R' n s) : R'.idOf = R.idOf := funext h.idOf
theorem Stp.succ {R R' : Rg} {n s : Int} (h : Stp R R' n s) (x : Int) (hx : x ≠ n) : (R'.know x).succ = (R.know x).succ := by
  by_cases e : x = s
  · rw [e, h.two]
  · rw [h.rest x hx e]
theorem Stp.pred {R R' : Rg} {n s : Int} (h : Stp R R' n s) (x : Int) (hx : x ≠ s) : (R'.know x).pred = (R.know x).pred := by
  by_cases e : x = n
  · rw [e, h.one]
  · rw [h.rest x e hx]
theorem Stp.kid {R R' : Rg} {n s : Int} (h : Stp R R' n s) (x : Int) : (R'.know x).id = (R.know x).id := by
  by_cases e : x = n
  · rw [e, h.one]
  · by_cases e2 : x = s
    · rw [e2, h.two]
    · rw [h.rest x e e2]
theorem Inv.stp {R R' : Rg} {n s : Int} (h : Inv R) (hn : R.lives n = true) (hs : R.lives s = true) (hq : NS R.idOf (R.idOf n) (R.idOf s)) (k : Stp R R' n s) : Inv R' := by
  have hsn : s ≠ n := h.apart hq
  refine ⟨fun x hx => h.rng x (by rw [← k.lives]; exact hx), fun x h0 h4 => by rw [k.lives]; exact h.base x h0 h4, fun x hx => by rw [k.pl]; exact h.pl x (by rw [← k.lives]; exact hx), fun x => by rw [k.idOf]; exact h.u x, fun x hx => by rw [k.kid, k.idOf]; exact h.id x (by rw [← k.lives]; exact hx), fun x y hx hy e => ?_, fun x hx => ?_, fun x hx y hy => ?_, fun x hx => ?_, fun x hx => ?_⟩
  · rw [k.lives] at hx hy; rw [k.idOf, k.idOf] at e; exact h.inj x y hx hy e
  · rw [k.lives] at hx
    by_cases e : x = n
    · rw [e, k.one]; simp [h.len s hs]
    · rw [k.succ x e]; exact h.len x hx
  · rw [k.lives] at hx
    rw [k.pl]
    by_cases e : x = n
    · rw [e, k.one] at hy
      rcases List.mem_cons.1 hy with q | q
      · rw [q]; exact h.pl s hs
      · exact h.mem s hs y (List.mem_of_mem_take q)
    · rw [k.succ x e] at hy; exact h.mem x hx y hy
  · rw [k.lives] at hx
    by_cases e : x = n
    · rw [e, k.one]; exact ⟨s, by simp, by rw [k.lives]; exact hs⟩
    · rw [k.succ x e]
      obtain ⟨y, h1, h2⟩ := h.hd x hx
      exact ⟨y, h1, by rw [k.lives]; exact h2⟩
  · rw [k.lives] at hx
    rw [k.livesF, k.idF]
    by_cases e : x = n
    · rw [e, k.one]
      simp only [Chain]
      rw [if_pos hs]
      exact ⟨hq, chain_take (h.ch s hs) 2⟩
    · rw [k.succ x e]; exact h.ch x hx
theorem Inv.stab {R : Rg} (h : Inv R) (n : Int) : Inv (R.stab n) := by
  cases hn : R.lives n
  · have : R.stab n = R := by unfold Rg.stab; rw [hn]; rfl
    rw [this]; exact h
  · obtain ⟨h1, h2, _⟩ := h.next hn
    exact h.stp hn h1 h2 (h.look hn)
theorem Inv.foldS {R : Rg} (h : Inv R) (l : List Int) : Inv (l.foldl (fun R n => R.stab n) R) := by
  induction l generalizing R with
  | nil => exact h
  | cons a l ih => exact ih (h.stab a)
theorem Inv.round {R : Rg} (h : Inv R) : Inv R.round := h.foldS _
theorem Inv.fail {R : Rg} (h : Inv R) (n : Int) : Inv (R.fail n) := by
  unfold Rg.fail
  by_cases q : R.failC n = 0
  · rw [if_pos q]
    obtain ⟨hl, h4⟩ := failC_zero q
    have hnd : R.needed n = false := by
      unfold Rg.failC at q
      rw [hl] at q
      cases hx : R.needed n
      · rfl
      · rw [hx] at q; simp at q
    have hlv : (R.delK n).lives = fun x => if x = n then false else R.lives x := funext (lives_delK R n)
    have hkn : ∀ x, x ≠ n → (R.delK n).know x = R.know x := fun x hx => by simp [Rg.know, Rg.delK, upd, hx]
    have hof : ∀ x, (R.delK n).lives x = true → R.lives x = true ∧ x ≠ n := fun x hx => by
      rw [hlv] at hx
      by_cases e : x = n
      · simp [e] at hx
      · simp [e] at hx; exact ⟨hx, e⟩
    refine ⟨fun x hx => h.rng x (hof x hx).1, fun x h0 hx4 => ?_, fun x hx => h.pl x (hof x hx).1, h.u, fun x hx => by rw [hkn x (hof x hx).2]; exact h.id x (hof x hx).1, fun x y hx hy e => h.inj x y (hof x hx).1 (hof y hy).1 e, fun x hx => by rw [hkn x (hof x hx).2]; exact h.len x (hof x hx).1, fun x hx => by rw [hkn x (hof x hx).2]; exact h.mem x (hof x hx).1, fun x hx => ?_, fun x hx => ?_⟩
    · rw [lives_delK, if_neg (by omega)]; exact h.base x h0 hx4
    · obtain ⟨x1, x2⟩ := hof x hx
      rw [hkn x x2]
      have hr := h.rng x x1
      have hln : R.lone n x = false := by
        unfold Rg.needed anyF at hnd
        rw [List.any_eq_false] at hnd
        have := hnd x ((mem_live R x).2 ⟨hr.1, hr.2, x1⟩)
        simpa using this
      unfold Rg.lone at hln
      have e1 : (x != n) = true := by simpa using x2
      rw [e1] at hln
      simp only [Bool.true_and, beq_eq_false_iff_ne] at hln
      rcases head_lv (fun y => y != -1 && (y != n && R.lives y)) (R.know x).succ with hh | hh
      · exact absurd hh hln
      · have hm : headF (fun y => y != -1 && (y != n && R.lives y)) (R.know x).succ ∈ (R.know x).succ := by
          refine (headF_spec ?_).2
          apply Classical.byContradiction
          intro hno
          apply hln
          exact headF_none (fun y hy => by
            cases hq : (y != -1 && (y != n && R.lives y))
            · rfl
            · exact absurd ⟨y, hy, hq⟩ hno)
        refine ⟨_, hm, ?_⟩
        simp only [Bool.and_eq_true, bne_iff_ne] at hh
        rw [lives_delK, if_neg hh.2.1]; exact hh.2.2
    · obtain ⟨x1, x2⟩ := hof x hx
      rw [hkn x x2, hlv]
      refine chain_del h.u (h.u x) (fun i h0 hi4 e => ?_) (h.ch x x1)
      have := h.inj i n (h.base i h0 hi4) hl e
      omega
  · rw [if_neg q]; exact h

theorem live_nodup (R : Rg) (k : Nat) : (R.liveTo k).Nodup := by
  induction k with
  | zero => exact List.nodup_nil
  | succ k ih =>
    unfold Rg.liveTo
    split
    · rw [List.nodup_append]
      refine ⟨ih, by simp, fun a ha b hb => ?_⟩
      simp at hb
      have := (mem_liveTo R k a).1 ha
      omega
    · exact ih
theorem Inv.in_live {R : Rg} (h : Inv R) {n : Int} (hn : R.lives n = true) : n ∈ R.live := by
  have := h.rng n hn
  exact (mem_live R n).2 ⟨this.1, this.2, hn⟩
theorem not_taken {R : Rg} {id : Int} (h : R.taken id = false) {n : Int} (hn : n ∈ R.live) : R.idOf n ≠ id := fun e => by
  unfold Rg.taken anyF at h
  rw [List.any_eq_false] at h
  have := h n hn
  simp [e] at this
/-- Who is looked for is found. -/
theorem Inv.ahead_spec {R : Rg} (h : Inv R) {id : Int} (hid : Plc id) (ht : R.taken id = false) (k : Nat) {x : Int} (hx : R.lives x = true) (hk : rkL R.live (fun y => dist (R.idOf y) id) (dist (R.idOf x) id) < k) :
    R.lives (R.aheadF id k x) = true ∧ withinB id (R.idOf (R.aheadF id k x)) (R.idOf (R.head (R.aheadF id k x))) = true := by
  induction k generalizing x with
  | zero => omega
  | succ k ih =>
    unfold Rg.aheadF
    by_cases hw : withinB id (R.idOf x) (R.idOf (R.head x)) = true
    · rw [if_pos hw]; exact ⟨hx, hw⟩
    · rw [if_neg hw]
      obtain ⟨h1, h2⟩ := h.head hx
      refine ih h1 ?_
      have hw' : withinB id (R.idOf x) (R.idOf (R.head x)) = false := by simpa using hw
      have q := (within_not hid (h.u x) (h.u (R.head x))).1 hw'
      have z := ns_ne h.u h.h01 (h.u _) (h.u _) h2
      have z1 : dist (R.idOf x) id ≠ 0 := fun e => not_taken ht (h.in_live hx) ((dist_zero (h.u x) hid).1 e)
      have t1 := dist_tri (R.idOf x) (R.idOf (R.head x)) id
      have r1 := dist_rng (R.idOf x) (R.idOf (R.head x))
      have r2 := dist_rng (R.idOf (R.head x)) id
      have r3 := dist_rng (R.idOf x) id
      have := rkL_lt (L := R.live) (d := fun y => dist (R.idOf y) id) (u := dist (R.idOf (R.head x)) id) (v := dist (R.idOf x) id) (y := R.head x) (h.in_live h1) (Int.le_refl _) (by show dist (R.idOf (R.head x)) id < dist (R.idOf x) id; omega)
      omega
theorem Inv.ahead {R : Rg} (h : Inv R) {id via : Int} (hid : Plc id) (ht : R.taken id = false) (hv : R.lives via = true) :
    R.lives (R.ahead id via) = true ∧ withinB id (R.idOf (R.ahead id via)) (R.idOf (R.head (R.ahead id via))) = true := by
  refine h.ahead_spec hid ht 33 hv ?_
  have h1 := rkL_len R.live (fun y => dist (R.idOf y) id) (dist (R.idOf via) id)
  have h2 : R.live.length ≤ 32 := liveTo_len R 32
  omega
/-- Join is never refused for want of one to hang on. -/
theorem Inv.not_busy {R : Rg} (h : Inv R) {n id via : Int} (hid : Plc id) : R.joinC n id via ≠ 5 := by
  unfold Rg.joinC
  split
  · omega
  · split
    · omega
    · split
      · omega
      · rename_i hv
        split
        · omega
        · rename_i ht
          have := h.ahead (id := id) (via := via) hid (by simpa using ht) (by simpa using hv)
          have := (h.rng _ this.1).1
          rw [if_neg (by omega)]; omega
theorem Inv.join_at {R : Rg} (h : Inv R) {n id via : Int} (hid : Plc id) (hc : R.joinC n id via = 0) : R.lives (R.ahead id via) = true ∧ withinB id (R.idOf (R.ahead id via)) (R.idOf (R.head (R.ahead id via))) = true ∧ R.taken id = false ∧ 4 ≤ n ∧ n < 32 ∧ R.pl n = none := by
  obtain ⟨h0, h1, h2⟩ := joinC_zero hc
  unfold Rg.joinC at hc
  rw [if_neg (by omega), h2] at hc
  cases hv : R.lives via
  · rw [hv] at hc; simp at hc
  · rw [hv] at hc
    cases ht : R.taken id
    · have q := h.ahead (via := via) hid ht hv
      refine ⟨q.1, q.2, rfl, ?_, h1, h2⟩
      apply Classical.byContradiction
      intro hn
      have := h.pl n (h.base n h0 (by omega))
      rw [h2] at this; cases this
    · rw [ht] at hc; simp at hc
theorem Inv.joined {R : Rg} (h : Inv R) {n id y : Int} (hid : Plc id) (hy : R.lives y = true) (hw : withinB id (R.idOf y) (R.idOf (R.head y)) = true) (ht : R.taken id = false) (h4 : 4 ≤ n) (h32 : n < 32) (hp : R.pl n = none) : Inv (R.joined n id y) := by
  have hlv : ∀ x, (R.joined n id y).lives x = if x = n then true else R.lives x := lives_joined R n id y
  have hkn : ∀ x, (R.joined n id y).know x = if x = n then ⟨id, y, (R.know y).succ⟩ else R.know x := fun x => by unfold Rg.joined; rw [know_setK]; rfl
  have hio : ∀ x, (R.joined n id y).idOf x = if x = n then id else R.idOf x := fun x => by
    unfold Rg.idOf; rw [pl_joined]; split <;> rfl
  have hnp : ∀ x, (R.pl x).isSome = true → x ≠ n := fun x hx e => by rw [e, hp] at hx; cases hx
  have hof : ∀ x, (R.joined n id y).lives x = true → x = n ∨ (x ≠ n ∧ R.lives x = true) := fun x hx => by
    rw [hlv] at hx
    by_cases e : x = n
    · exact .inl e
    · rw [if_neg e] at hx; exact .inr ⟨e, hx⟩
  have hnt := fun x (hx : R.lives x = true) => not_taken ht (h.in_live hx)
  refine ⟨fun x hx => ?_, fun x h0 hx4 => ?_, fun x hx => ?_, fun x => ?_, fun x hx => ?_, fun a b ha hb e => ?_, fun x hx => ?_, fun x hx z hz => ?_, fun x hx => ?_, fun x hx => ?_⟩
  · rcases hof x hx with e | ⟨_, e⟩
    · omega
    · exact h.rng x e
  · rw [hlv]; split
    · rfl
    · exact h.base x h0 hx4
  · rw [pl_joined]; split
    · rfl
    · rename_i e
      rcases hof x hx with e2 | ⟨_, e2⟩
      · exact absurd e2 e
      · exact h.pl x e2
  · rw [hio]; split
    · exact hid
    · exact h.u x
  · rw [hkn, hio]; split
    · rfl
    · rename_i e
      rcases hof x hx with e2 | ⟨_, e2⟩
      · exact absurd e2 e
      · exact h.id x e2
  · rw [hio, hio] at e
    rcases hof a ha with e1 | ⟨n1, e1⟩
    · rcases hof b hb with e2 | ⟨n2, e2⟩
      · rw [e1, e2]
      · rw [if_pos e1, if_neg n2] at e; exact absurd e.symm (hnt b e2)
    · rcases hof b hb with e2 | ⟨n2, e2⟩
      · rw [if_neg n1, if_pos e2] at e; exact absurd e (hnt a e1)
      · rw [if_neg n1, if_neg n2] at e; exact h.inj a b e1 e2 e
  · rw [hkn]; split
    · exact h.len y hy
    · rename_i e
      rcases hof x hx with e2 | ⟨_, e2⟩
      · exact absurd e2 e
      · exact h.len x e2
  · have hz' : (R.pl z).isSome = true := by
      rw [hkn] at hz
      split at hz
      · exact h.mem y hy z hz
      · rename_i e
        rcases hof x hx with e2 | ⟨_, e2⟩
        · exact absurd e2 e
        · exact h.mem x e2 z hz
    rw [pl_joined]; split
    · rfl
    · exact hz'
  · rw [hkn]
    have key : ∀ v, R.lives v = true → ∃ z ∈ (R.know v).succ, (R.joined n id y).lives z = true := fun v hv => by
      obtain ⟨z, h1, h2⟩ := h.hd v hv
      exact ⟨z, h1, by rw [hlv, if_neg (hnp z (h.mem v hv z h1))]; exact h2⟩
    split
    · exact key y hy
    · rename_i e
      rcases hof x hx with e2 | ⟨_, e2⟩
      · exact absurd e2 e
      · exact key x e2
  · have hb : ∀ i, 0 ≤ i → i < 4 → (R.joined n id y).idOf i = R.idOf i := fun i _ h4' => by rw [hio, if_neg (by omega)]
    have hm : ∀ v, R.lives v = true → ∀ z ∈ (R.know v).succ, (R.joined n id y).lives z = R.lives z ∧ (R.joined n id y).idOf z = R.idOf z := fun v hv z hz => by
      have := hnp z (h.mem v hv z hz)
      rw [hlv, hio, if_neg this, if_neg this]; exact ⟨rfl, rfl⟩
    rw [hkn, hio]
    split
    · refine chain_congr ?_ hb (hm y hy)
      have hh := h.ch y hy
      have hd := h.hd y hy
      have hhead : R.head y = headF R.lives (R.know y).succ := by unfold Rg.head; rw [h.lv]
      rw [hhead] at hw
      clear hhead
      generalize (R.know y).succ = l at hh hd hw
      induction l with
      | nil => exact trivial
      | cons b l ih =>
        simp only [Chain, headF] at hh hw ⊢
        by_cases e : R.lives b = true
        · rw [if_pos e] at hh hw ⊢
          exact ⟨ns_mid h.u h.h01 (h.u y) (h.u b) hid hh.1 hw, hh.2⟩
        · rw [if_neg e] at hh hw ⊢
          obtain ⟨z, hz, hl⟩ := hd
          rcases List.mem_cons.1 hz with q | q
          · subst q; exact absurd hl e
          · exact ih hh ⟨z, q, hl⟩ hw
    · rename_i e
      rcases hof x hx with e2 | ⟨_, e2⟩
      · exact absurd e2 e
      · exact chain_congr (h.ch x e2) hb (hm x e2)
theorem Inv.join {R : Rg} (h : Inv R) (n id via : Int) (hid : Plc id) : Inv (R.join n id via) := by
  unfold Rg.join
  by_cases hc : R.joinC n id via = 0
  · rw [if_pos hc]
    obtain ⟨h1, h2, h3, h4, h5, h6⟩ := h.join_at hid hc
    exact h.joined hid h1 h2 h3 h4 h5 h6
  · rw [if_neg hc]; exact h
end Go.Proofs.YtkkkldglceiiiaaGreat

/- A ring in the calm: so many rounds later each member knows what it should. No program in sight. -/
namespace Go.Proofs.YtkkkldglceiiiaaGreat
set_option linter.unusedVariables false

/-- How many lie nearer ahead of b. -/
def Rg.rk (R : Rg) (b x : Int) : Nat := rkL R.live (fun y => dist (R.idOf y) (R.idOf b)) (dist (R.idOf x) (R.idOf b))
/-- Nobody that lives lies between. -/
def Adj (R : Rg) (c s : Int) : Prop := R.lives c = true ∧ R.lives s = true ∧ c ≠ s ∧ ∀ y, R.lives y = true → withinB (R.idOf y) (R.idOf c) (R.idOf s) = false

theorem Inv.lt_rk {R : Rg} (h : Inv R) {b x y : Int} (hd : R.rk b x < R.rk b y) : dist (R.idOf x) (R.idOf b) < dist (R.idOf y) (R.idOf b) := by
  apply Classical.byContradiction
  intro hn
  have := rkL_mono R.live (fun y => dist (R.idOf y) (R.idOf b)) (u := dist (R.idOf y) (R.idOf b)) (v := dist (R.idOf x) (R.idOf b)) (by omega)
  unfold Rg.rk at hd
  omega
theorem Inv.rk_le {R : Rg} (h : Inv R) (b x : Int) : R.rk b x ≤ R.live.length := rkL_len _ _ _
section
variable {R : Rg} (h : Inv R)
include h
theorem Inv.rk_lt {b x y : Int} (hx : R.lives x = true) (hd : dist (R.idOf x) (R.idOf b) < dist (R.idOf y) (R.idOf b)) : R.rk b x < R.rk b y :=
  rkL_lt (d := fun y => dist (R.idOf y) (R.idOf b)) (h.in_live hx) (Int.le_refl _) hd
theorem Inv.rk_eq {b x y : Int} (hx : R.lives x = true) (hy : R.lives y = true) (he : R.rk b x = R.rk b y) : x = y := by
  have h1 := h.rk_lt (b := b) (x := x) (y := y) hx
  have h2 := h.rk_lt (b := b) (x := y) (y := x) hy
  have e : dist (R.idOf x) (R.idOf b) = dist (R.idOf y) (R.idOf b) := by
    rcases Int.lt_trichotomy (dist (R.idOf x) (R.idOf b)) (dist (R.idOf y) (R.idOf b)) with q | q | q
    · have := h1 q; omega
    · exact q
    · have := h2 q; omega
  exact h.inj x y hx hy (dist_injR (h.u x) (h.u y) e)
theorem Inv.rk_pos {b x : Int} (hb : R.lives b = true) (hx : R.lives x = true) (hne : x ≠ b) : 0 < R.rk b x := by
  have h0 : dist (R.idOf b) (R.idOf b) = 0 := dist_self _
  have r := dist_rng (R.idOf x) (R.idOf b)
  have h1 : dist (R.idOf x) (R.idOf b) ≠ 0 := fun e => hne (h.inj x b hx hb ((dist_zero (h.u x) (h.u b)).1 e))
  have := h.rk_lt (b := b) (x := b) (y := x) hb (by omega)
  omega
theorem Inv.rk_step {b x : Int} (hp : R.rk b x ≠ 0) : ∃ y, R.lives y = true ∧ R.rk b y + 1 = R.rk b x := by
  obtain ⟨y, hy, _, he⟩ := rkL_step (live_nodup R 32) (fun x hx y hy e => h.inj x y ((mem_live R x).1 hx).2.2 ((mem_live R y).1 hy).2.2 (dist_injR (h.u x) (h.u y) e)) hp
  exact ⟨y, ((mem_live R y).1 hy).2.2, he⟩
theorem Inv.rk_exists {b : Int} (k : Nat) : ∀ (m : Nat) (x : Int), R.lives x = true → R.rk b x = k + m → ∃ y, R.lives y = true ∧ R.rk b y = k := by
  intro m
  induction m with
  | zero => intro x hx e; exact ⟨x, hx, e⟩
  | succ m ih =>
    intro x hx e
    obtain ⟨y, hy, he⟩ := h.rk_step (b := b) (x := x) (by omega)
    exact ih y hy (by omega)
theorem Inv.rk_within {b c s y : Int} (hc : R.lives c = true) (hs : R.lives s = true) (hy : R.lives y = true) (hr : R.rk b s < R.rk b c) : withinB (R.idOf y) (R.idOf c) (R.idOf s) = true ↔ R.rk b s < R.rk b y ∧ R.rk b y < R.rk b c := by
  rw [between_iff (h.u y) (h.u c) (h.u s) (h.u b) (h.lt_rk hr)]
  exact ⟨fun q => ⟨h.rk_lt hs q.1, h.rk_lt hy q.2⟩, fun q => ⟨h.lt_rk q.1, h.lt_rk q.2⟩⟩
theorem Inv.adj_rk {b c s : Int} (hc : R.lives c = true) (hs : R.lives s = true) (hr : R.rk b s + 1 = R.rk b c) : Adj R c s := by
  refine ⟨hc, hs, fun e => by subst e; omega, fun y hy => ?_⟩
  cases hw : withinB (R.idOf y) (R.idOf c) (R.idOf s)
  · rfl
  · have := (h.rk_within (b := b) hc hs hy (by omega)).1 hw
    omega
theorem Inv.adj_uniq {c s t : Int} (h1 : Adj R c s) (h2 : Adj R c t) : s = t := by
  obtain ⟨hc, hs, n1, w1⟩ := h1
  obtain ⟨_, ht, n2, w2⟩ := h2
  have q1 := (within_not (h.u t) (h.u c) (h.u s)).1 (w1 t ht)
  have q2 := (within_not (h.u s) (h.u c) (h.u t)).1 (w2 s hs)
  have z1 : dist (R.idOf c) (R.idOf s) ≠ 0 := fun e => n1 (h.inj c s hc hs ((dist_zero (h.u c) (h.u s)).1 e))
  have z2 : dist (R.idOf c) (R.idOf t) ≠ 0 := fun e => n2 (h.inj c t hc ht ((dist_zero (h.u c) (h.u t)).1 e))
  have e : dist (R.idOf c) (R.idOf s) = dist (R.idOf c) (R.idOf t) := by omega
  exact h.inj s t hs ht (dist_inj (h.u s) (h.u t) e)
/-- From c to s nobody lies: whoever else lives, c is met on the way from there to s. -/
theorem Inv.adj_back {c s p : Int} (ha : Adj R c s) (hp : R.lives p = true) (hne : p ≠ c) : withinB (R.idOf c) (R.idOf p) (R.idOf s) = true := by
  obtain ⟨hc, hs, n1, w1⟩ := ha
  have n1' : R.idOf c ≠ R.idOf s := fun e => n1 (h.inj c s hc hs e)
  have n2' : R.idOf p ≠ R.idOf c := fun e => hne (h.inj p c hp hc e)
  by_cases e : p = s
  · subst e
    rw [within_iff (h.u c) (h.u p) (h.u p)]
    exact ⟨fun e => n2' ((dist_zero (h.u p) (h.u c)).1 e), .inl (dist_self _)⟩
  · have n3' : R.idOf p ≠ R.idOf s := fun q => e (h.inj p s hp hs q)
    have uc := h.u c
    have us := h.u s
    have up := h.u p
    unfold Plc at uc us up
    have := w1 p hp
    rw [round_turn (R.idOf p) (R.idOf c) (R.idOf s) up uc us n2' (Ne.symm n3') (Ne.symm n1'), round_not (R.idOf c) (R.idOf s) (R.idOf p) uc us up n1' n2' n3', this]
    rfl
theorem Inv.toward_rk {b c : Int} (h0 : 0 ≤ b) (h4 : b < 4) (hc : R.lives c = true) (hne : c ≠ b) : R.rk b (R.head c) < R.rk b c := by
  obtain ⟨h1, h2⟩ := h.head hc
  exact h.rk_lt h1 (toward h.u h.h01 (h.u c) (h.u _) h2 h0 h4 (fun e => hne (h.inj c b hc (h.base b h0 h4) e))).1
end

theorem Stp.live {R R' : Rg} {n s : Int} (k : Stp R R' n s) : R'.live = R.live := Alike.live ⟨fun n _ => k.lives n, k.pl⟩
theorem Stp.rk {R R' : Rg} {n s : Int} (k : Stp R R' n s) (b x : Int) : R'.rk b x = R.rk b x := by unfold Rg.rk; rw [k.live, k.idF]
theorem Stp.adj {R R' : Rg} {n s : Int} (k : Stp R R' n s) (c t : Int) : Adj R' c t ↔ Adj R c t := by unfold Adj; rw [k.livesF, k.idF]
theorem Stp.lv {R R' : Rg} {n s : Int} (k : Stp R R' n s) : R'.lv = R.lv := by funext x; unfold Rg.lv; rw [k.lives]
theorem Stp.head {R R' : Rg} {n s : Int} (k : Stp R R' n s) (x : Int) (hx : x ≠ n) : R'.head x = R.head x := by unfold Rg.head; rw [k.lv, k.succ x hx]
theorem Stp.head1 {R R' : Rg} {n s : Int} (h : Inv R) (k : Stp R R' n s) (hs : R.lives s = true) : R'.head n = s := by
  unfold Rg.head; rw [k.lv, k.one, h.lv]; simp [headF, hs]

/-- A member's head is the next one, or behind so many. -/
def Am (j : Nat) (b c : Int) (R : Rg) : Prop := R.rk b c ≤ R.rk b (R.head c) + 1 ∨ j ≤ R.rk b (R.head c)
/-- Whom a member that is the next one takes for its Pred. -/
def Bm (b c : Int) (R : Rg) : Prop := ∀ s, R.lives s = true → R.rk b s + 1 = R.rk b c → (R.know s).pred = c

theorem stab_dead {R : Rg} {n : Int} (h : R.lives n = false) : R.stab n = R := by unfold Rg.stab; rw [h]; rfl
theorem Am.stab {R : Rg} (h : Inv R) {j : Nat} {b c : Int} (h0 : 0 ≤ b) (h4 : b < 4) (hc : R.lives c = true) (hne : c ≠ b) (ha : Am j b c R) (n : Int) : Am j b c (R.stab n) := by
  cases hn : R.lives n
  · rw [stab_dead hn]; exact ha
  · have k := h.look hn
    obtain ⟨h1, h2, h3, hx⟩ := h.next hn
    unfold Am at *
    by_cases e : c = n
    · subst e
      rw [k.rk, k.rk, k.head1 h h1]
      rcases hx with hx | ⟨_, hx⟩
      · rw [hx]; exact ha
      · have := (h.rk_within (b := b) hc (h.head hc).1 h1 (h.toward_rk h0 h4 hc hne)).1 hx
        omega
    · rw [k.rk, k.rk, k.head c e]; exact ha
theorem rect_keep {R : Rg} (h : Inv R) {c s n : Int} (ha : Adj R c s) (hn : R.lives n = true) : R.rect (R.know s).id c n = c := by
  apply rectF_no
  · rw [h.lv]; exact ha.1
  · rw [h.id s ha.2.1, ha.2.2.2 n hn]; simp
theorem pred_stab {R : Rg} (h : Inv R) {c s : Int} (ha : Adj R c s) (hp : (R.know s).pred = c) (n : Int) : ((R.stab n).know s).pred = c := by
  cases hn : R.lives n
  · rw [stab_dead hn]; exact hp
  · have k := h.look hn
    by_cases e : s = R.next n
    · have := k.two
      rw [← e] at this
      rw [this, hp]
      exact rect_keep h ha hn
    · rw [k.pred s e]; exact hp
theorem lives_stab {R : Rg} (h : Inv R) (n x : Int) : (R.stab n).lives x = R.lives x := by
  cases hn : R.lives n
  · rw [stab_dead hn]
  · exact (h.look hn).lives x
theorem rk_stab {R : Rg} (h : Inv R) (n b x : Int) : (R.stab n).rk b x = R.rk b x := by
  cases hn : R.lives n
  · rw [stab_dead hn]
  · exact (h.look hn).rk b x
theorem adj_stab {R : Rg} (h : Inv R) (n c s : Int) : Adj (R.stab n) c s ↔ Adj R c s := by
  cases hn : R.lives n
  · rw [stab_dead hn]
  · exact (h.look hn).adj c s
theorem Bm.stab {R : Rg} (h : Inv R) {b c : Int} (hc : R.lives c = true) (hb : Bm b c R) (n : Int) : Bm b c (R.stab n) := by
  intro s hs hr
  rw [lives_stab h] at hs
  rw [rk_stab h, rk_stab h] at hr
  exact pred_stab h (h.adj_rk hc hs hr) (hb s hs hr) n

/-- What a round gives: what each look keeps, and what a member's own look gives. -/
theorem fold_gets (P : Rg → Prop) (Q : Int → Rg → Prop) (hP : ∀ R n, P R → P (R.stab n)) (hl : ∀ R, P R → Inv R) (h1 : ∀ R c, P R → R.lives c = true → Q c (R.stab c)) (h2 : ∀ R c n, P R → R.lives c = true → Q c R → Q c (R.stab n)) :
    ∀ (l : List Int) (R : Rg), P R → (∀ c ∈ l, R.lives c = true) → P (l.foldl (fun R n => R.stab n) R) ∧ (∀ c, R.lives c = true → (c ∈ l ∨ Q c R) → Q c (l.foldl (fun R n => R.stab n) R)) := by
  intro l
  induction l with
  | nil => intro R hR _; exact ⟨hR, fun c _ hc => by rcases hc with q | q; cases q; exact q⟩
  | cons a l ih =>
    intro R hR hm
    have hi := hl R hR
    obtain ⟨i1, i2⟩ := ih (R.stab a) (hP R a hR) (fun c hc => by rw [lives_stab hi]; exact hm c (by simp [hc]))
    refine ⟨i1, fun c hc hq => i2 c (by rw [lives_stab hi]; exact hc) ?_⟩
    rcases hq with q | q
    · rcases List.mem_cons.1 q with e | q
      · subst e; exact .inr (h1 R c hR hc)
      · exact .inl q
    · exact .inr (h2 R c a hR hc q)
theorem round_gets (P : Rg → Prop) (Q : Int → Rg → Prop) (hP : ∀ R n, P R → P (R.stab n)) (hl : ∀ R, P R → Inv R) (h1 : ∀ R c, P R → R.lives c = true → Q c (R.stab c)) (h2 : ∀ R c n, P R → R.lives c = true → Q c R → Q c (R.stab n)) {R : Rg} (hR : P R) : P R.round ∧ ∀ c, R.lives c = true → Q c R.round := by
  obtain ⟨i1, i2⟩ := fold_gets P Q hP hl h1 h2 R.live R hR (fun c hc => ((mem_live R c).1 hc).2.2)
  exact ⟨i1, fun c hc => i2 c hc (.inl ((hl R hR).in_live hc))⟩
theorem lives_round {R : Rg} (h : Inv R) (x : Int) : R.round.lives x = R.lives x := by
  have : ∀ (l : List Int) (R : Rg), Inv R → (l.foldl (fun R n => R.stab n) R).lives x = R.lives x := by
    intro l
    induction l with
    | nil => intro R _; rfl
    | cons a l ih => intro R h; exact (ih (R.stab a) (h.stab a)).trans (lives_stab h a x)
  exact this _ R h
theorem rk_round {R : Rg} (h : Inv R) (b x : Int) : R.round.rk b x = R.rk b x := by
  have : ∀ (l : List Int) (R : Rg), Inv R → (l.foldl (fun R n => R.stab n) R).rk b x = R.rk b x := by
    intro l
    induction l with
    | nil => intro R _; rfl
    | cons a l ih => intro R h; exact (ih (R.stab a) (h.stab a)).trans (rk_stab h a b x)
  exact this _ R h

/-- So far, all is right. -/
def Far (b : Int) (k j : Nat) (R : Rg) : Prop := Inv R ∧ (∀ c, R.lives c = true → c ≠ b → Am k b c R) ∧ (∀ c, R.lives c = true → R.rk b c ≤ j → Bm b c R)
theorem Far.stab {b : Int} (h0 : 0 ≤ b) (h4 : b < 4) {k j : Nat} {R : Rg} (h : Far b k j R) (n : Int) : Far b k j (R.stab n) := by
  obtain ⟨hi, ha, hb⟩ := h
  refine ⟨hi.stab n, fun c hc hne => ?_, fun c hc hk => ?_⟩
  · rw [lives_stab hi] at hc; exact (ha c hc hne).stab hi h0 h4 hc hne n
  · rw [lives_stab hi] at hc; rw [rk_stab hi] at hk; exact (hb c hc hk).stab hi hc n
theorem Far.odd {b : Int} (h0 : 0 ≤ b) (h4 : b < 4) {k : Nat} {R : Rg} (h : Far b k k R) : Far b k (k + 1) R.round := by
  have hi := h.1
  obtain ⟨p, q⟩ := round_gets (Far b k k) (fun c R => R.rk b c = k + 1 → Bm b c R) (fun R n hR => hR.stab h0 h4 n) (fun R hR => hR.1)
    (fun R c hR hc hk s hs hr => by
      have hi := hR.1
      rw [rk_stab hi] at hk
      rw [lives_stab hi] at hs
      rw [rk_stab hi, rk_stab hi] at hr
      have hne : c ≠ b := fun e => by
        subst e
        have h1 := hi.lt_rk (b := c) (x := s) (y := c) (by omega)
        have h2 : dist (R.idOf c) (R.idOf c) = 0 := dist_self _
        have h3 := dist_rng (R.idOf s) (R.idOf c)
        omega
      have adj := hi.adj_rk hc hs hr
      have hh := hi.head hc
      have ht := hi.toward_rk h0 h4 hc hne
      have hA := hR.2.1 c hc hne
      unfold Am at hA
      have e1 : R.head c = s := hi.rk_eq (b := b) hh.1 hs (by omega)
      obtain ⟨n1, n2, n3, n4⟩ := hi.next hc
      have e2 : R.next c = s := by
        rcases n4 with q | ⟨_, q⟩
        · exact q.trans e1
        · rw [e1, adj.2.2.2 _ n1] at q; cases q
      have k := hi.look hc
      rw [e2] at k
      rw [k.two]
      show R.rect (R.know s).id (R.know s).pred c = c
      by_cases ep : (R.know s).pred = c
      · rw [ep]; exact rect_keep hi adj hc
      · cases hl : R.lives (R.know s).pred
        · exact rectF_dead (by rw [hi.lv]; exact hl)
        · apply rectF_in
          rw [hi.id s hs, hi.adj_back adj hl ep]
          have := (hi.rng c hc).1
          simp; omega)
    (fun R c n hR hc hQ hk => by
      rw [rk_stab hR.1] at hk
      exact (hQ hk).stab hR.1 hc n) h
  refine ⟨p.1, p.2.1, fun c hc hk => ?_⟩
  by_cases e : R.round.rk b c ≤ k
  · exact p.2.2 c hc e
  · rw [lives_round hi] at hc
    exact q c hc (by omega)
theorem Far.even {b : Int} (h0 : 0 ≤ b) (h4 : b < 4) {k : Nat} {R : Rg} (h : Far b k (k + 1) R) : Far b (k + 1) (k + 1) R.round := by
  have hi := h.1
  obtain ⟨p, q⟩ := round_gets (Far b k (k + 1)) (fun c R => c ≠ b → Am (k + 1) b c R) (fun R n hR => hR.stab h0 h4 n) (fun R hR => hR.1)
    (fun R c hR hc hne => by
      have hi := hR.1
      have hA := hR.2.1 c hc hne
      by_cases hd : Am (k + 1) b c R
      · exact hd.stab hi h0 h4 hc hne c
      · have hh := hi.head hc
        have ht := hi.toward_rk h0 h4 hc hne
        unfold Am at hA hd
        obtain ⟨z, hz, hzk⟩ := hi.rk_exists (b := b) (k + 1) (R.rk b c - (k + 1)) c hc (by omega)
        have hp : (R.know (R.head c)).pred = z := hR.2.2 z hz (by omega) (R.head c) hh.1 (by omega)
        have hw : withinB (R.idOf z) (R.idOf c) (R.idOf (R.head c)) = true := (hi.rk_within (b := b) hc hh.1 hz ht).2 ⟨by omega, by omega⟩
        have e2 : R.next c = z := by
          rw [← hp] at hz hw
          rw [hi.next_near hc hz hw, hp]
        have k' := hi.look hc
        rw [e2] at k'
        right
        rw [k'.head1 hi hz, k'.rk, hzk]
        exact Nat.le_refl _)
    (fun R c n hR hc hQ hne => (hQ hne).stab hR.1 h0 h4 hc hne n) h
  refine ⟨p.1, fun c hc hne => ?_, p.2.2⟩
  rw [lives_round hi] at hc
  exact q c hc hne

def Rg.rounds (R : Rg) : Nat → Rg
  | 0 => R
  | k + 1 => (R.rounds k).round
theorem Inv.rounds {R : Rg} (h : Inv R) (k : Nat) : Inv (R.rounds k) := by
  induction k with
  | zero => exact h
  | succ k ih => exact ih.round
theorem lives_rounds {R : Rg} (h : Inv R) (k : Nat) (x : Int) : (R.rounds k).lives x = R.lives x := by
  induction k with
  | zero => rfl
  | succ k ih => exact (lives_round (h.rounds k) x).trans ih
theorem alike_rounds (R : Rg) (k : Nat) : Alike R (R.rounds k) := by
  induction k with
  | zero => exact Alike.refl R
  | succ k ih => exact ih.trans (round_alike _)
theorem Far.rounds {b : Int} (h0 : 0 ≤ b) (h4 : b < 4) {R : Rg} (h : Inv R) (k : Nat) : Far b k k (R.rounds (2 * k)) := by
  induction k with
  | zero =>
    refine ⟨h, fun c hc hne => .inr (Nat.zero_le _), fun c hc hk s hs hr => ?_⟩
    have : R.rk b c ≤ 0 := hk
    have : R.rk b s + 1 = R.rk b c := hr
    omega
  | succ k ih => exact (ih.odd h0 h4).even h0 h4
/-- More rounds undo nothing. -/
theorem Far.round {b : Int} (h0 : 0 ≤ b) (h4 : b < 4) {k j : Nat} {R : Rg} (h : Far b k j R) : Far b k j R.round :=
  (round_gets (Far b k j) (fun _ _ => True) (fun R n hR => hR.stab h0 h4 n) (fun R hR => hR.1) (fun _ _ _ _ => trivial) (fun _ _ _ _ _ _ => trivial) h).1

/-- Each head and each Pred is the next one. -/
def Hds (R : Rg) : Prop := ∀ c s, Adj R c s → R.head c = s ∧ (R.know s).pred = c
theorem hds_of {R : Rg} (f0 : Far 0 R.live.length R.live.length R) (f1 : Far 1 R.live.length R.live.length R) : Hds R := by
  have key : ∀ b, 0 ≤ b → b < 4 → Far b R.live.length R.live.length R → ∀ c s, c ≠ b → Adj R c s → R.head c = s ∧ (R.know s).pred = c := by
    intro b h0 h4 f c s hne ha
    have hi := f.1
    have hc := ha.1
    have hp := hi.rk_pos (b := b) (hi.base b h0 h4) hc hne
    obtain ⟨y, hy, hr⟩ := hi.rk_step (b := b) (x := c) (by omega)
    have e : y = s := hi.adj_uniq (hi.adj_rk hc hy hr) ha
    subst e
    have hA := f.2.1 c hc hne
    have ht := hi.toward_rk h0 h4 hc hne
    have hl := hi.rk_le b c
    unfold Am at hA
    exact ⟨hi.rk_eq (b := b) (hi.head hc).1 hy (by omega), f.2.2 c hc hl y hy hr⟩
  intro c s ha
  by_cases e : c = 0
  · exact key 1 (by omega) (by omega) f1 c s (by omega) ha
  · exact key 0 (by omega) (by omega) f0 c s e ha
theorem Inv.adj_exists {R : Rg} (h : Inv R) {c : Int} (hc : R.lives c = true) : ∃ s, Adj R c s := by
  have key : ∀ b, 0 ≤ b → b < 4 → c ≠ b → ∃ s, Adj R c s := by
    intro b h0 h4 hne
    have hp := h.rk_pos (b := b) (h.base b h0 h4) hc hne
    obtain ⟨y, hy, hr⟩ := h.rk_step (b := b) (x := c) (by omega)
    exact ⟨y, h.adj_rk hc hy hr⟩
  by_cases e : c = 0
  · exact key 1 (by omega) (by omega) (by omega)
  · exact key 0 (by omega) (by omega) e
theorem Hds.stab {R : Rg} (hi : Inv R) (h : Hds R) (n : Int) : Hds (R.stab n) := by
  intro c s ha
  rw [adj_stab hi] at ha
  obtain ⟨h1, h2⟩ := h c s ha
  refine ⟨?_, pred_stab hi ha h2 n⟩
  cases hn : R.lives n
  · rw [stab_dead hn]; exact h1
  · have k := hi.look hn
    obtain ⟨n1, n2, n3, n4⟩ := hi.next hn
    by_cases e : c = n
    · subst e
      rw [k.head1 hi n1]
      rcases n4 with q | ⟨_, q⟩
      · exact q.trans h1
      · rw [h1, ha.2.2.2 _ n1] at q; cases q
    · rw [k.head c e]; exact h1
theorem Hds.next {R : Rg} (hi : Inv R) (h : Hds R) {c s : Int} (ha : Adj R c s) : R.next c = s := by
  obtain ⟨n1, n2, n3, n4⟩ := hi.next ha.1
  have h1 := (h c s ha).1
  rcases n4 with q | ⟨_, q⟩
  · exact q.trans h1
  · rw [h1, ha.2.2.2 _ n1] at q; cases q
/-- One behind the other. -/
def AdjC (R : Rg) : Int → List Int → Prop
  | _, [] => True
  | c, s :: l => Adj R c s ∧ AdjC R s l
theorem AdjC.take {R : Rg} {c : Int} {l : List Int} (h : AdjC R c l) (k : Nat) : AdjC R c (l.take k) := by
  induction l generalizing c k with
  | nil => simp; exact h
  | cons s l ih =>
    cases k with
    | zero => exact trivial
    | succ k => exact ⟨h.1, ih h.2 k⟩
theorem adjC_stab {R : Rg} (hi : Inv R) (n : Int) {c : Int} {l : List Int} (h : AdjC R c l) : AdjC (R.stab n) c l := by
  induction l generalizing c with
  | nil => exact trivial
  | cons s l ih => exact ⟨(adj_stab hi n c s).2 h.1, ih h.2⟩
/-- The first j of each list are the next ones. -/
def Lst (j : Nat) (c : Int) (R : Rg) : Prop := AdjC R c ((R.know c).succ.take j)
/-- Heads and Preds are right, the lists so far. -/
def Rgt (j : Nat) (R : Rg) : Prop := Inv R ∧ Hds R ∧ ∀ c, R.lives c = true → Lst j c R
theorem lst_own {R : Rg} {j : Nat} (h : Rgt j R) {c : Int} (hc : R.lives c = true) : Lst (j + 1) c (R.stab c) := by
  obtain ⟨hi, hh, hl⟩ := h
  obtain ⟨s, ha⟩ := hi.adj_exists hc
  have k := hi.look hc
  rw [hh.next hi ha] at k
  unfold Lst
  rw [k.one]
  simp only [List.take_succ_cons]
  refine adjC_stab hi c ?_
  refine ⟨ha, ?_⟩
  rw [List.take_take, Nat.min_comm, ← List.take_take]
  exact AdjC.take (hl s ha.2.1) 2
theorem Lst.le {R : Rg} {j k : Nat} {c : Int} (h : Lst j c R) (hk : k ≤ j) : Lst k c R := by
  unfold Lst at *
  have := h.take k
  rwa [List.take_take, Nat.min_eq_left hk] at this
theorem lst_stab {R : Rg} {i j : Nat} (h : Rgt i R) (hij : j ≤ i + 1) {c : Int} (hc : R.lives c = true) (hl : Lst j c R) (n : Int) : Lst j c (R.stab n) := by
  cases hn : R.lives n
  · rw [stab_dead hn]; exact hl
  · by_cases e : c = n
    · subst e; exact (lst_own h hc).le hij
    · unfold Lst at *
      rw [(h.1.look hn).succ c e]
      exact adjC_stab h.1 n hl
theorem Rgt.stab {R : Rg} {j : Nat} (h : Rgt j R) (n : Int) : Rgt j (R.stab n) :=
  ⟨h.1.stab n, h.2.1.stab h.1 n, fun c hc => by rw [lives_stab h.1] at hc; exact lst_stab h (by omega) hc (h.2.2 c hc) n⟩
theorem Rgt.more {R : Rg} {j : Nat} (h : Rgt j R) : Rgt (j + 1) R.round := by
  obtain ⟨p, q⟩ := round_gets (Rgt j) (fun c R => Lst (j + 1) c R) (fun R n hR => hR.stab n) (fun R hR => hR.1) (fun R c hR hc => lst_own hR hc) (fun R c n hR hc hl => lst_stab hR (Nat.le_refl _) hc hl n) h
  exact ⟨p.1, p.2.1, fun c hc => by rw [lives_round h.1] at hc; exact q c hc⟩
theorem Rgt.round {R : Rg} {j : Nat} (h : Rgt j R) : Rgt j R.round := ⟨h.more.1, h.more.2.1, fun c hc => (h.more.2.2 c hc).le (by omega)⟩
/-- CALM: so many rounds later all is as it should be. -/
theorem Inv.calm {R : Rg} (h : Inv R) {m : Nat} (hm : 2 * R.live.length + 3 ≤ m) : Rgt 3 (R.rounds m) := by
  have hl : ∀ k, (R.rounds k).live = R.live := fun k => (alike_rounds R k).live
  have h0 : Rgt 0 (R.rounds (2 * R.live.length)) := by
    have f0 := Far.rounds (b := 0) (by omega) (by omega) h R.live.length
    have f1 := Far.rounds (b := 1) (by omega) (by omega) h R.live.length
    refine ⟨h.rounds _, hds_of ?_ ?_, fun c hc => ?_⟩
    · rw [hl]; exact f0
    · rw [hl]; exact f1
    · simp [Lst, AdjC]
  have h3 : Rgt 3 (R.rounds (2 * R.live.length + 3)) := h0.more.more.more
  obtain ⟨d, rfl⟩ : ∃ d, m = 2 * R.live.length + 3 + d := ⟨m - (2 * R.live.length + 3), by omega⟩
  clear hm
  induction d with
  | zero => exact h3
  | succ d ih => exact ih.round
end Go.Proofs.YtkkkldglceiiiaaGreat

/- The ring of the base, as New makes it, has what holds of a ring always. No program in sight. -/
namespace Go.Proofs.YtkkkldglceiiiaaGreat
set_option linter.unusedVariables false

theorem Circ.rise {l S : List Int} {c0 c1 c2 c3 : Int} (h : Circ l (circleOf l S) c0 c1 c2 c3) (hp : S.Pairwise (· < ·)) (hm : ∀ x, x ∈ S ↔ x ∈ l) :
    l.getD c0.toNat 0 < l.getD c1.toNat 0 ∧ l.getD c1.toNat 0 < l.getD c2.toNat 0 ∧ l.getD c2.toNat 0 < l.getD c3.toNat 0 := by
  have e := h.eq
  match S, e, hp, hm with
  | [s0, s1, s2, s3], e, hp, hm =>
    have hin : ∀ x ∈ [s0, s1, s2, s3], l.getD (ix l x) 0 = x := fun x hx => (ix_spec ((hm x).1 hx)).2.1
    simp only [circleOf, List.map_cons, List.map_nil, List.cons.injEq, and_true] at e
    obtain ⟨e0, e1, e2, e3⟩ := e
    have g0 := hin s0 (by simp)
    have g1 := hin s1 (by simp)
    have g2 := hin s2 (by simp)
    have g3 := hin s3 (by simp)
    rw [← e0, ← e1, ← e2, ← e3]
    simp only [Int.toNat_natCast, g0, g1, g2, g3]
    simp at hp
    omega
  | [], e, _, _ => simp [circleOf] at e
  | [_], e, _, _ => simp [circleOf] at e
  | [_, _], e, _, _ => simp [circleOf] at e
  | [_, _, _], e, _, _ => simp [circleOf] at e
  | _ :: _ :: _ :: _ :: _ :: _, e, _, _ => simp [circleOf] at e

theorem rise_ns {s0 s1 s2 s3 : Int} (p0 : Plc s0) (p1 : Plc s1) (p2 : Plc s2) (p3 : Plc s3) (h1 : s0 < s1) (h2 : s1 < s2) (h3 : s2 < s3) {x : Int} (hx : x = s0 ∨ x = s1 ∨ x = s2 ∨ x = s3) :
    withinB x s0 s1 = false ∧ withinB x s1 s2 = false ∧ withinB x s2 s3 = false ∧ withinB x s3 s0 = false := by
  have px : Plc x := by rcases hx with e | e | e | e <;> rw [e] <;> assumption
  rw [within_not px p0 p1, within_not px p1 p2, within_not px p2 p3, within_not px p3 p0]
  unfold Plc at *
  unfold dist
  rcases hx with e | e | e | e <;> subst e <;> refine ⟨?_, ?_, ?_, ?_⟩ <;> omega

theorem Circ.inv {l S : List Int} {c0 c1 c2 c3 : Int} (h : Circ l (circleOf l S) c0 c1 c2 c3) (hp : S.Pairwise (· < ·)) (hm : ∀ x, x ∈ S ↔ x ∈ l) (hu : ∀ k : Nat, Plc (l.getD k 0)) : Inv (newTo l (circleOf l S) 4) := by
  obtain ⟨r1, r2, r3⟩ := h.rise hp hm
  obtain ⟨k0, k1, k2, k3, i0, i1, i2, i3, kn⟩ := h.kn
  have hplN : ∀ n, (newTo l (circleOf l S) 4).lives n = true → ((newTo l (circleOf l S) 4).pl n).isSome = true := fun n => newTo_pl _ _ _ n
  have hplX : ∀ n, n ∉ [c0, c1, c2, c3] → (newTo l (circleOf l S) 4).pl n = none := fun n hn => by
    rw [h.eq]
    simp only [List.mem_cons, List.not_mem_nil, or_false, not_or] at hn
    simp [newTo, Rg.setK, Rg.setP, upd, rg0, hn.1, hn.2.1, hn.2.2.1, hn.2.2.2]
  have rng := h.rng
  have all := h.all
  have nd := h.nd
  generalize newTo l (circleOf l S) 4 = R at *
  have q0 := hu c0.toNat
  have q1 := hu c1.toNat
  have q2 := hu c2.toNat
  have q3 := hu c3.toNat
  generalize l.getD c0.toNat 0 = s0 at *
  generalize l.getD c1.toNat 0 = s1 at *
  generalize l.getD c2.toNat 0 = s2 at *
  generalize l.getD c3.toNat 0 = s3 at *
  clear h hp hm hu
  have l0 : R.lives c0 = true := by simp [Rg.lives, k0]
  have l1 : R.lives c1 = true := by simp [Rg.lives, k1]
  have l2 : R.lives c2 = true := by simp [Rg.lives, k2]
  have l3 : R.lives c3 = true := by simp [Rg.lives, k3]
  have w0 : R.know c0 = ⟨s0, c3, [c1, c2, c3]⟩ := by simp [Rg.know, k0]
  have w1 : R.know c1 = ⟨s1, c0, [c2, c3, c0]⟩ := by simp [Rg.know, k1]
  have w2 : R.know c2 = ⟨s2, c1, [c3, c0, c1]⟩ := by simp [Rg.know, k2]
  have w3 : R.know c3 = ⟨s3, c2, [c0, c1, c2]⟩ := by simp [Rg.know, k3]
  have who : ∀ n, R.lives n = true → n = c0 ∨ n = c1 ∨ n = c2 ∨ n = c3 := fun n hn => by
    by_cases e : n ∈ [c0, c1, c2, c3]
    · simpa using e
    · simp [Rg.lives, kn n e] at hn
  have ns : ∀ i, 0 ≤ i → i < 4 → withinB (R.idOf i) s0 s1 = false ∧ withinB (R.idOf i) s1 s2 = false ∧ withinB (R.idOf i) s2 s3 = false ∧ withinB (R.idOf i) s3 s0 = false := fun i h0 h4 => by
    refine rise_ns q0 q1 q2 q3 r1 r2 r3 ?_
    have := all i h0 h4
    simp only [List.mem_cons, List.not_mem_nil, or_false] at this
    rcases this with e | e | e | e <;> rw [e]
    · exact .inl i0
    · exact .inr (.inl i1)
    · exact .inr (.inr (.inl i2))
    · exact .inr (.inr (.inr i3))
  refine ⟨fun n hn => ?_, fun n h0 h4 => ?_, hplN, fun n => ?_, fun n hn => ?_, fun n m hn hm e => ?_, fun n hn => ?_, fun n hn x hx => ?_, fun n hn => ?_, fun n hn => ?_⟩
  · have := who n hn
    have := rng n (by simpa using this)
    omega
  · have := all n h0 h4
    simp only [List.mem_cons, List.not_mem_nil, or_false] at this
    rcases this with e | e | e | e <;> rw [e] <;> assumption
  · by_cases e : n ∈ [c0, c1, c2, c3]
    · simp only [List.mem_cons, List.not_mem_nil, or_false] at e
      rcases e with e | e | e | e <;> rw [e]
      · rw [i0]; exact q0
      · rw [i1]; exact q1
      · rw [i2]; exact q2
      · rw [i3]; exact q3
    · have := hplX n e
      simp [Rg.idOf, this, Plc]
  · rcases who n hn with e | e | e | e <;> rw [e]
    · rw [w0, i0]
    · rw [w1, i1]
    · rw [w2, i2]
    · rw [w3, i3]
  · rcases who n hn with a | a | a | a <;> rcases who m hm with b | b | b | b <;> rw [a, b] at e ⊢ <;> simp only [i0, i1, i2, i3] at e <;> omega
  · rcases who n hn with e | e | e | e <;> rw [e]
    · rw [w0]; rfl
    · rw [w1]; rfl
    · rw [w2]; rfl
    · rw [w3]; rfl
  · have hx' : R.lives x = true := by
      rcases who n hn with e | e | e | e <;> rw [e] at hx <;> simp only [w0, w1, w2, w3, List.mem_cons, List.not_mem_nil, or_false] at hx <;> rcases hx with e2 | e2 | e2 <;> rw [e2] <;> assumption
    exact hplN x hx'
  · rcases who n hn with e | e | e | e <;> rw [e]
    · rw [w0]; exact ⟨c1, by simp, l1⟩
    · rw [w1]; exact ⟨c2, by simp, l2⟩
    · rw [w2]; exact ⟨c3, by simp, l3⟩
    · rw [w3]; exact ⟨c0, by simp, l0⟩
  · have n0 : NS R.idOf s0 s1 := fun i h0 h4 => (ns i h0 h4).1
    have n1 : NS R.idOf s1 s2 := fun i h0 h4 => (ns i h0 h4).2.1
    have n2 : NS R.idOf s2 s3 := fun i h0 h4 => (ns i h0 h4).2.2.1
    have n3 : NS R.idOf s3 s0 := fun i h0 h4 => (ns i h0 h4).2.2.2
    rcases who n hn with e | e | e | e <;> rw [e]
    · rw [w0, i0]; simp [Chain, l1, l2, l3, i1, i2, i3, n0, n1, n2]
    · rw [w1, i1]; simp [Chain, l0, l2, l3, i0, i2, i3, n1, n2, n3]
    · rw [w2, i2]; simp [Chain, l0, l1, l3, i0, i1, i3, n0, n2, n3]
    · rw [w3, i3]; simp [Chain, l0, l1, l2, i0, i1, i2, n0, n1, n3]
end Go.Proofs.YtkkkldglceiiiaaGreat

/- Head by head: from each member one comes to every base member; from the base round once. No program in sight. -/
namespace Go.Proofs.YtkkkldglceiiiaaGreat
set_option linter.unusedVariables false

def Rg.hop (R : Rg) (x : Int) : Nat → Int
  | 0 => x
  | k + 1 => R.head (R.hop x k)
theorem Inv.hop {R : Rg} (h : Inv R) {x : Int} (hx : R.lives x = true) (k : Nat) : R.lives (R.hop x k) = true := by
  induction k with
  | zero => exact hx
  | succ k ih => exact (h.head ih).1
theorem hop_head (R : Rg) (x : Int) (k : Nat) : R.hop (R.head x) k = R.hop x (k + 1) := by
  induction k with
  | zero => rfl
  | succ k ih => show R.head (R.hop (R.head x) k) = _; rw [ih]; rfl
theorem Inv.hop_base {R : Rg} (h : Inv R) {b : Int} (h0 : 0 ≤ b) (h4 : b < 4) : ∀ (m : Nat) (x : Int), R.lives x = true → R.rk b x ≤ m → ∃ j, j ≤ m ∧ R.hop x j = b := by
  intro m
  induction m with
  | zero =>
    intro x hx hm
    by_cases e : x = b
    · exact ⟨0, Nat.le_refl _, e⟩
    · have := h.rk_pos (b := b) (h.base b h0 h4) hx e; omega
  | succ m ih =>
    intro x hx hm
    by_cases e : x = b
    · exact ⟨0, Nat.zero_le _, e⟩
    · have := h.toward_rk h0 h4 hx e
      obtain ⟨j, hj, hb⟩ := ih (R.head x) (h.head hx).1 (by omega)
      exact ⟨j + 1, by omega, by rw [← hop_head]; exact hb⟩
/-- Was it there among the first k? -/
def Rg.vis (R : Rg) (b x : Int) : Nat → Bool
  | 0 => false
  | k + 1 => R.vis b x k || R.hop x k == b
theorem vis_of {R : Rg} {b x : Int} {j k : Nat} (hj : j < k) (hb : R.hop x j = b) : R.vis b x k = true := by
  induction k with
  | zero => omega
  | succ k ih =>
    unfold Rg.vis
    by_cases e : j = k
    · subst e; simp [hb]
    · rw [ih (by omega)]; rfl
theorem Inv.vis {R : Rg} (h : Inv R) {b x : Int} (h0 : 0 ≤ b) (h4 : b < 4) (hx : R.lives x = true) : R.vis b x 70 = true := by
  obtain ⟨j, hj, hb⟩ := h.hop_base h0 h4 (R.rk b x) x hx (Nat.le_refl _)
  have h1 := h.rk_le b x
  have h2 : R.live.length ≤ 32 := liveTo_len R 32
  exact vis_of (by omega) hb
def seenV (a b c d : Bool) : Int := (if a then 1 else 0) + (if b then 2 else 0) + (if c then 4 else 0) + (if d then 8 else 0)
def Rg.seen (R : Rg) (x : Int) (k : Nat) : Int := seenV (R.vis 0 x k) (R.vis 1 x k) (R.vis 2 x k) (R.vis 3 x k)
theorem Inv.seen {R : Rg} (h : Inv R) {x : Int} (hx : R.lives x = true) : R.seen x 70 = 15 := by
  unfold Rg.seen
  rw [h.vis (b := 0) (by omega) (by omega) hx, h.vis (b := 1) (by omega) (by omega) hx, h.vis (b := 2) (by omega) (by omega) hx, h.vis (b := 3) (by omega) (by omega) hx]
  rfl
theorem seen_rng (a b c d : Bool) : 0 ≤ seenV a b c d ∧ seenV a b c d ≤ 15 := by cases a <;> cases b <;> cases c <;> cases d <;> decide
/-- On the way round from base member 0. -/
def Way (R : Rg) (n : Int) (k : Nat) : Prop := R.lives n = true ∧ ((n = 0 ∧ k = 0) ∨ (n ≠ 0 ∧ R.rk 0 n + k ≤ 33))
theorem Way.few {R : Rg} (h : Inv R) {n : Int} {k : Nat} (hw : Way R n k) : k < 40 := by
  rcases hw.2 with ⟨_, e⟩ | ⟨_, e⟩ <;> omega
theorem Way.next {R : Rg} (h : Inv R) {n : Int} {k : Nat} (hw : Way R n k) : R.head n = 0 ∧ n ≠ 0 ∨ Way R (R.head n) (k + 1) := by
  obtain ⟨h1, h2⟩ := h.head hw.1
  by_cases e : R.head n = 0
  · left
    refine ⟨e, fun e2 => ?_⟩
    exact h.apart h2 (e.trans e2.symm)
  · right
    refine ⟨h1, .inr ⟨e, ?_⟩⟩
    rcases hw.2 with ⟨_, q⟩ | ⟨q1, q⟩
    · have h3 := h.rk_le 0 (R.head n)
      have h4 : R.live.length ≤ 32 := liveTo_len R 32
      omega
    · have := h.toward_rk (b := 0) (by omega) (by omega) hw.1 q1
      omega
/-- The way so far, and the next step's. -/
theorem Way.sum {R : Rg} (h : Inv R) {n : Int} {k : Nat} (hw : Way R n k) :
    0 < dist (R.idOf n) (R.idOf (R.head n)) ∧ (R.head n = 0 ∧ n ≠ 0 → dist (R.idOf 0) (R.idOf n) + dist (R.idOf n) (R.idOf (R.head n)) = 18446744073709551616) ∧
    (R.head n ≠ 0 → dist (R.idOf 0) (R.idOf n) + dist (R.idOf n) (R.idOf (R.head n)) = dist (R.idOf 0) (R.idOf (R.head n))) := by
  obtain ⟨h1, h2⟩ := h.head hw.1
  have z := ns_ne h.u h.h01 (h.u _) (h.u _) h2
  have r1 := dist_rng (R.idOf n) (R.idOf (R.head n))
  have r2 := dist_rng (R.idOf 0) (R.idOf n)
  have r3 := dist_rng (R.idOf 0) (R.idOf (R.head n))
  have t := dist_tri (R.idOf 0) (R.idOf n) (R.idOf (R.head n))
  refine ⟨by omega, fun ⟨e, ne⟩ => ?_, fun e => ?_⟩
  · rw [e] at t z r1 ⊢
    have := dist_self (R.idOf 0)
    omega
  · by_cases e0 : n = 0
    · subst e0
      have := dist_self (R.idOf 0)
      omega
    · have q := (toward h.u h.h01 (h.u n) (h.u _) h2 (i := 0) (by omega) (by omega) (fun e => e0 (h.inj n 0 hw.1 (h.base 0 (by omega) (by omega)) e)))
      have t2 := dist_tri (R.idOf 0) (R.idOf n) (R.idOf 0)
      have t3 := dist_tri (R.idOf 0) (R.idOf (R.head n)) (R.idOf 0)
      have s0 := dist_self (R.idOf 0)
      have r4 := dist_rng (R.idOf n) (R.idOf 0)
      have r5 := dist_rng (R.idOf (R.head n)) (R.idOf 0)
      have z2 : dist (R.idOf (R.head n)) (R.idOf 0) ≠ 0 := fun q => e (h.inj _ 0 h1 (h.base 0 (by omega) (by omega)) ((dist_zero (h.u _) (h.u 0)).1 q))
      omega
end Go.Proofs.YtkkkldglceiiiaaGreat

/- slices.Equal at ints; peer.Same. -/
namespace Go.Proofs.YtkkkldglceiiiaaGreat
open Go.ChangeShapes Go.WideShapes Go.ChangeAt Go.RowKit Go.Deep
set_option linter.unusedVariables false


/-- Do two know the same? -/
def peB (a b : Pe) : Bool := a.id == b.id && (a.pred == b.pred && intsB a.succ b.succ)
end Go.Proofs.YtkkkldglceiiiaaGreat

/- The circle of those that live, by their places; what each one should know. No program in sight. -/
namespace Go.Proofs.YtkkkldglceiiiaaGreat
set_option linter.unusedVariables false

structure Cir (R : Rg) (C : List Int) : Prop where
  rise : C.Pairwise (fun a b => R.idOf a < R.idOf b)
  mem : ∀ x, x ∈ C ↔ R.lives x = true
  len : C.length = R.live.length
/-- What the one at i should know. -/
def idPe (R : Rg) (C : List Int) (i : Nat) : Pe := ⟨R.idOf (C.getD i 0), C.getD ((i + C.length - 1) % C.length) 0, (C.drop (i + 1) ++ C.take i).take 3⟩
/-- Do the first k know it? -/
def isB (R : Rg) (C : List Int) : Nat → Bool
  | 0 => true
  | k + 1 => isB R C k && peB (R.know (C.getD k 0)) (idPe R C k)
theorem isB_no {R : Rg} {C : List Int} {k : Nat} (h : peB (R.know (C.getD k 0)) (idPe R C k) = false) : ∀ n, k < n → isB R C n = false := by
  intro n
  induction n with
  | zero => intro hk; omega
  | succ n ih =>
    intro hk
    unfold isB
    by_cases e : k = n
    · subst e; rw [h]; simp
    · rw [ih (by omega)]; rfl
theorem live_four {R : Rg} (h : Inv R) : 4 ≤ R.live.length := by
  have := nodup_sub [0, 1, 2, 3] R.live (by decide) (fun x hx => by
    have hx4 : 0 ≤ x ∧ x < 4 := by simp at hx; omega
    exact h.in_live (h.base x hx4.1 hx4.2))
  simpa using this
section
variable {R : Rg} {C : List Int} (h : Inv R) (c : Cir R C)
include c
theorem Cir.lt {i j : Nat} (hij : i < j) (hj : j < C.length) : R.idOf (C.getD i 0) < R.idOf (C.getD j 0) := by
  have := List.pairwise_iff_getElem.1 c.rise i j (by omega) hj hij
  have e1 : C.getD i 0 = C[i]'(by omega) := by simp [List.getD, show i < C.length by omega]
  have e2 : C.getD j 0 = C[j] := by simp [List.getD, hj]
  rw [e1, e2]; exact this
theorem Cir.lv {i : Nat} (hi : i < C.length) : R.lives (C.getD i 0) = true := by
  have e2 : C.getD i 0 = C[i] := by simp [List.getD, hi]
  rw [e2]; exact (c.mem _).1 (List.getElem_mem _)
theorem Cir.at_ {x : Int} (hx : R.lives x = true) : ∃ j, j < C.length ∧ C.getD j 0 = x := by
  obtain ⟨j, hj, e⟩ := List.getElem_of_mem ((c.mem x).2 hx)
  exact ⟨j, hj, by simp [List.getD, hj, e]⟩
include h
theorem Cir.four : 4 ≤ C.length := by rw [c.len]; exact live_four h
theorem Cir.adj {i : Nat} (hi : i < C.length) : Adj R (C.getD i 0) (C.getD ((i + 1) % C.length) 0) := by
  have h4 := c.four h
  have hk : (i + 1) % C.length < C.length := Nat.mod_lt _ (by omega)
  have ui := h.u (C.getD i 0)
  refine ⟨c.lv hi, c.lv hk, ?_, fun y hy => ?_⟩
  · intro e
    by_cases q : i + 1 < C.length
    · rw [Nat.mod_eq_of_lt q] at e
      have := c.lt (i := i) (j := i + 1) (by omega) q
      rw [← e] at this; omega
    · have e0 : i + 1 = C.length := by omega
      rw [e0, Nat.mod_self] at e
      have := c.lt (i := 0) (j := i) (by omega) hi
      rw [← e] at this; omega
  · obtain ⟨j, hj, e⟩ := c.at_ hy
    subst e
    have uj := h.u (C.getD j 0)
    have uk := h.u (C.getD ((i + 1) % C.length) 0)
    rw [within_not uj ui uk]
    by_cases eij : j = i
    · subst eij; left; exact dist_self _
    · right
      by_cases q : i + 1 < C.length
      · rw [Nat.mod_eq_of_lt q] at uk ⊢
        have l1 := c.lt (i := i) (j := i + 1) (by omega) q
        rcases Nat.lt_or_ge j i with g | g
        · have l2 := c.lt (i := j) (j := i) g hi
          unfold Plc at *; unfold dist; omega
        · by_cases e2 : j = i + 1
          · subst e2; unfold Plc at *; unfold dist; omega
          · have l2 := c.lt (i := i + 1) (j := j) (by omega) hj
            unfold Plc at *; unfold dist; omega
      · have e0 : i + 1 = C.length := by omega
        rw [e0, Nat.mod_self] at uk ⊢
        have l1 := c.lt (i := 0) (j := i) (by omega) hi
        have l3 := c.lt (i := j) (j := i) (by omega) hi
        by_cases e2 : j = 0
        · subst e2; unfold Plc at *; unfold dist; omega
        · have l2 := c.lt (i := 0) (j := j) (by omega) hj
          unfold Plc at *; unfold dist; omega
end
theorem rot_getD (C : List Int) (i k : Nat) (hi : i < C.length) (hk : k + 1 < C.length) : (C.drop (i + 1) ++ C.take i).getD k 0 = C.getD ((i + 1 + k) % C.length) 0 := by
  simp only [List.getD, List.getElem?_append, List.length_drop]
  by_cases q : k < C.length - (i + 1)
  · rw [if_pos q, List.getElem?_drop, Nat.mod_eq_of_lt (by omega)]
  · rw [if_neg q, List.getElem?_take_of_lt (by omega)]
    have e : (i + 1 + k) % C.length = k - (C.length - (i + 1)) := by
      rw [Nat.mod_eq_sub_mod (by omega), Nat.mod_eq_of_lt (by omega)]; omega
    rw [e]
theorem take3 (l : List Int) (hl : 3 ≤ l.length) : l.take 3 = [l.getD 0 0, l.getD 1 0, l.getD 2 0] := by
  match l, hl with
  | a :: b :: c :: l, _ => rfl
theorem idPe_succ {C : List Int} {R : Rg} {i : Nat} (h4 : 4 ≤ C.length) (hi : i < C.length) : (idPe R C i).succ = [C.getD ((i + 1) % C.length) 0, C.getD ((i + 2) % C.length) 0, C.getD ((i + 3) % C.length) 0] := by
  unfold idPe
  simp only
  rw [take3 _ (by simp; omega), rot_getD C i 0 hi (by omega), rot_getD C i 1 hi (by omega), rot_getD C i 2 hi (by omega)]
/-- In the calm each one knows what it should. -/
theorem Rgt.know_eq {R : Rg} {C : List Int} (h : Rgt 3 R) (c : Cir R C) {i : Nat} (hi : i < C.length) : R.know (C.getD i 0) = idPe R C i := by
  obtain ⟨hv, hh, hl⟩ := h
  have h4 := c.four hv
  have a1 := c.adj hv hi
  have m1 : (i + 1) % C.length < C.length := Nat.mod_lt _ (by omega)
  have m2 : (i + 2) % C.length < C.length := Nat.mod_lt _ (by omega)
  have a2 := c.adj hv m1
  have e2 : ((i + 1) % C.length + 1) % C.length = (i + 2) % C.length := by rw [Nat.add_mod, Nat.mod_mod, ← Nat.add_mod]
  rw [e2] at a2
  have a3 := c.adj hv m2
  have e3 : ((i + 2) % C.length + 1) % C.length = (i + 3) % C.length := by rw [Nat.add_mod, Nat.mod_mod, ← Nat.add_mod]
  rw [e3] at a3
  have m0 : (i + C.length - 1) % C.length < C.length := Nat.mod_lt _ (by omega)
  have a0 := c.adj hv m0
  have e0 : ((i + C.length - 1) % C.length + 1) % C.length = i := by
    rw [Nat.add_mod, Nat.mod_mod, ← Nat.add_mod, show i + C.length - 1 + 1 = i + C.length by omega, Nat.add_mod_right, Nat.mod_eq_of_lt hi]
  rw [e0] at a0
  have hlc := a1.1
  have hlen := hv.len _ hlc
  have hls := hl _ hlc
  have hpr := (hh _ _ a0).2
  have hidc := hv.id _ hlc
  have hs := idPe_succ (R := R) h4 hi
  unfold Lst at hls
  have e : R.know (C.getD i 0) = ⟨(R.know (C.getD i 0)).id, (R.know (C.getD i 0)).pred, (R.know (C.getD i 0)).succ⟩ := rfl
  rw [e, hidc, hpr]
  have es : (R.know (C.getD i 0)).succ = (idPe R C i).succ := by
    rw [hs]
    match hps : (R.know (C.getD i 0)).succ, hlen with
    | [x1, x2, x3], _ =>
      rw [hps] at hls
      simp only [List.take, AdjC] at hls
      have q1 := hv.adj_uniq hls.1 a1
      rw [q1] at hls
      have q2 := hv.adj_uniq hls.2.1 a2
      rw [q2] at hls
      have q3 := hv.adj_uniq hls.2.2.1 a3
      rw [q1, q2, q3]
  rw [es]; rfl
theorem peB_refl (p : Pe) : peB p p = true := by
  have : intsB p.succ p.succ = true := ints_all rfl (fun _ _ => rfl)
  simp [peB, this]
theorem Rgt.is {R : Rg} {C : List Int} (h : Rgt 3 R) (c : Cir R C) : ∀ k, k ≤ C.length → isB R C k = true := by
  intro k
  induction k with
  | zero => intro _; rfl
  | succ k ih => intro hk; unfold isB; rw [ih (by omega), h.know_eq c (by omega), peB_refl]; rfl
end Go.Proofs.YtkkkldglceiiiaaGreat

/- New, of any places: a ring with what holds always, or none; what a Join gives. -/
namespace Go.Proofs.YtkkkldglceiiiaaGreat
open Go.ChangeShapes Go.WideShapes Go.ChangeAt Go.RowKit Go.Deep
set_option linter.unusedVariables false

/-- A ring that is ours: none of its parts lies in what came in. -/
structure Rn (w wr : World) (r gp gk : Nat) (R : Rg) : Prop where
  ring : RingAt wr r gp gk R
  inv : Inv R
  bel : Below w.heap.size w wr
  gp : w.heap.size ≤ gp
  gk : w.heap.size ≤ gk
theorem Rn.below {w wr w' : World} {r gp gk : Nat} {R : Rg} (h : Rn w wr r gp gk R) (hb : Below wr.heap.size wr w') : Rn w w' r gp gk R :=
  ⟨h.ring.below hb, h.inv, h.bel.trans (hb.mono h.bel.size), h.gp, h.gk⟩
theorem Rn.step {w wr w' : World} {r gp gk : Nat} {R R' : Rg} (h : Rn w wr r gp gk R) (hr : RingAt w' r gp gk R') (hi : Inv R') (k : Kp wr w' gp gk) : Rn w w' r gp gk R' :=
  ⟨hr, hi, h.bel.trans (k.below h.gp h.gk h.bel.size), h.gp, h.gk⟩
theorem getD_u64 {w : World} {a : Option Addr} {n : Nat} {l : List Int} (h : IdIn w a n l) (k : Nat) : Plc (l.getD k 0) := by
  by_cases hk : k < n
  · obtain ⟨b, o, _, _, hu, _⟩ := h.one (v := Value.int .u64) (fun _ => rfl) (i := k) hk
    exact hu
  · have := h.1
    have e : l.getD k 0 = 0 := by simp [List.getD, List.getElem?_eq_none (show l.length ≤ k by omega)]
    rw [e]; unfold Plc; omega
theorem new_any (a : Option Addr) (n cap : Nat) (l : List Int) (w : World) (h : IdIn w a n l) :
    Calls Tryz.prog 4 #[.slice a n cap] w fun e w' =>
      ((∃ c : Int, (c = 1 ∨ c = 8) ∧ e = .returned (.tuple #[.pointer none, .iface 43 (.int .i64 c)])) ∨
       (∃ (r gp gk : Nat) (R : Rg), e = .returned (.tuple #[.pointer (some ⟨r, 0, none⟩), .nilIface]) ∧ Rn w w' r gp gk R ∧ w.heap.size ≤ r)) ∧ Below w.heap.size w w' := by
  by_cases hn : n ≠ 4
  · refine (new_len a n cap w hn h.2.1).mono ?_
    rintro e w' ⟨he, hb⟩
    exact ⟨.inl ⟨1, .inl rfl, he⟩, hb⟩
  · obtain rfl : n = 4 := by omega
    refine (new_four a cap l w h).mono ?_
    rintro e w' ⟨h2, hb⟩
    rcases h2 with ⟨S, hp, hm, hl, he⟩ | ⟨S, r, gp, gk, hp, hm, hl, he, hr, g1, g2, g3⟩
    · exact ⟨.inl ⟨8, .inr rfl, he⟩, hb⟩
    · obtain ⟨c0, c1, c2, c3, hc⟩ := circ_of h.1 hp hm hl
      exact ⟨.inr ⟨r, gp, gk, _, he, ⟨hr, hc.inv hp hm (getD_u64 h), hb, g2, g3⟩, g1⟩, hb⟩
theorem errV_nil {c : Int} (h : c = 0) : errV c = .nilIface := if_pos h
theorem errV_code {c : Int} (h : c ≠ 0) : errV c = .iface 43 (.int .i64 c) := if_neg h
/-- What a Join gives that goes through. -/
theorem Inv.joins {R : Rg} (h : Inv R) {n id via : Int} (hid : Plc id) (hc : R.joinC n id via = 0) :
    ∃ a p, R.kn a = some p ∧ (R.join n id via).kn n = some ⟨id, a, p.succ⟩ ∧ (R.join n id via).kn a = some p ∧ p.succ.length = 3 ∧ (R.join n id via).lives n = true ∧ (R.join n id via).lives a = true ∧
      (R.join n id via).head n = (R.join n id via).head a ∧ p.id = (R.join n id via).idOf a ∧ withinB id p.id ((R.join n id via).idOf ((R.join n id via).head n)) = true ∧ 0 ≤ (R.join n id via).head n ∧ i64 a := by
  obtain ⟨h1, h2, h3, h4, h5, h6⟩ := h.join_at hid hc
  have hJ := h.join n id via hid
  have e : R.join n id via = R.joined n id (R.ahead id via) := if_pos hc
  rw [e] at hJ ⊢
  generalize R.ahead id via = a at *
  have hne : a ≠ n := fun q => by have := h.pl a h1; rw [q, h6] at this; cases this
  have hl1 : (R.joined n id a).lives n = true := by rw [lives_joined, if_pos rfl]
  have hl2 : (R.joined n id a).lives a = true := by rw [lives_joined, if_neg hne]; exact h1
  cases hk : R.kn a with
  | none => simp [Rg.lives, hk] at h1
  | some p =>
    have hp : R.know a = p := by simp [Rg.know, hk]
    have hkn : (R.joined n id a).kn n = some ⟨id, a, p.succ⟩ := by simp [Rg.joined, Rg.setK, Rg.setP, upd, hp]
    have hka : (R.joined n id a).kn a = some p := by simp [Rg.joined, Rg.setK, Rg.setP, upd, hne, hk]
    have hh : (R.joined n id a).head n = (R.joined n id a).head a := by unfold Rg.head; simp [Rg.know, hkn, hka]
    have hpid : p.id = (R.joined n id a).idOf a := by
      have := hJ.id a hl2
      simpa [Rg.know, hka] using this
    have hio : ∀ x, x ≠ n → (R.joined n id a).idOf x = R.idOf x := fun x hx => by unfold Rg.idOf; rw [pl_joined, if_neg hx]
    have hr := h.rng a h1
    have hlen := h.len a h1
    rw [hp] at hlen
    have hhd : (R.joined n id a).head a = R.head a := by
      unfold Rg.head
      rw [hJ.lv, h.lv]
      simp only [Rg.know, hka, hk, Option.getD_some]
      have hm := h.mem a h1
      rw [hp] at hm
      generalize p.succ = l at hm
      induction l with
      | nil => rfl
      | cons x l ih =>
        have hx : x ≠ n := fun q => by have := hm x (by simp); rw [q, h6] at this; cases this
        simp only [headF, lives_joined, if_neg hx]
        rw [ih (fun y hy => hm y (by simp [hy]))]
    have hR := h.head h1
    have hne2 : R.head a ≠ n := fun q => by have := h.pl _ hR.1; rw [q, h6] at this; cases this
    refine ⟨a, p, hk, hkn, hka, hlen, hl1, hl2, hh, hpid, ?_, ?_, ?_⟩
    · rw [hpid, hh, hhd, hio a hne, hio _ hne2]; exact h2
    · rw [hh, hhd]; exact (h.rng _ hR.1).1
    · unfold i64; omega
end Go.Proofs.YtkkkldglceiiiaaGreat

/- A ring, and beside it a list of one's own that grows. -/
namespace Go.Proofs.YtkkkldglceiiiaaGreat
open Go.ChangeShapes Go.WideShapes Go.ChangeAt Go.RowKit Go.Deep
set_option linter.unusedVariables false

/-- What grows beside the ring, in a block that its lists keep clear of, or in a new one. -/
theorem RingAt.grow {w w' : World} {r gp gk : Nat} {R : Rg} {og : Option Nat} (h : RingAt w r gp gk R) (hl : ∀ k p, R.kn k = some p → p.succ.length = 3) (hs : w.heap.size ≤ w'.heap.size)
    (hb : ∀ b, b < w.heap.size → og ≠ some b → w'.heap[b]? = w.heap[b]?) (hg : ∀ g, og = some g → R.cl g ∧ r ≠ g ∧ gp ≠ g ∧ gk ≠ g) (D : Nat → Prop) (hD : ∀ b, D b → (R.cl b ∨ w.heap.size ≤ b) ∧ b < w'.heap.size) : RingAt w' r gp gk (R.withCl D) := by
  obtain ⟨mp, hp, hp'⟩ := h.places
  obtain ⟨mk, hk, hk'⟩ := h.known
  have hlt := h.lt
  have n1 : og ≠ some r := fun e => (hg r e).2.1 rfl
  have n2 : og ≠ some gp := fun e => (hg gp e).2.2.1 rfl
  have n3 : og ≠ some gk := fun e => (hg gk e).2.2.2 rfl
  refine ⟨(hb r hlt.1 n1).trans h.box, h.ne, ⟨mp, hp.of_block (hb gp hlt.2.1 n2), hp'⟩, ⟨mk, hk.of_block (hb gk hlt.2.2 n3), fun k => ?_⟩, h.ids, fun b e => (hD b e).2⟩
  have q := hk' k
  show KnOk w' D (R.kn k) (look mk k)
  cases hp : R.kn k with
  | none =>
    cases hv : look mk k with
    | none => exact trivial
    | some v => rw [hp, hv] at q; exact q.elim
  | some p =>
    cases hv : look mk k with
    | none => rw [hp, hv] at q; exact q.elim
    | some v =>
      rw [hp, hv] at q
      obtain ⟨a, len, cap, e, hpe, hd⟩ := q
      have h3 := hl k p hp
      have h4 := hpe.row.1
      rcases hpe.row.2.2 with h0 | ⟨b, o, ha, hlt, hc⟩
      · omega
      · have hbg : og ≠ some b := fun e => hd _ ha (hg b e).1
        refine ⟨a, len, cap, e, ⟨hpe.hid, hpe.hpred, ⟨hpe.row.1, hpe.row.2.1, .inr ⟨b, o, ha, Nat.lt_of_lt_of_le hlt hs, fun i hi => ⟨(hc i hi).1, fun j hj => ?_⟩⟩⟩, hpe.hcap, hpe.hmost, hpe.hnil⟩, fun x hx hcl => ?_⟩
        · rw [World.cell?_of_block (hb b hlt hbg)]
          exact (hc i hi).2 j hj
        · rw [ha] at hx
          cases hx
          rcases (hD b hcl).1 with q | q
          · exact hd _ ha q
          · omega

structure Rw (w wr : World) (B r gp gk : Nat) (gv : Value) (G : List Int) (R : Rg) : Prop where
  rn : Rn w wr r gp gk R
  row : wr.ownsRow B 3 1 gv G.length (G.map cellI)
  cl : ∀ g, gv.ownBlock = some g → R.cl g
  lr : r < B
  lp : gp < B
  lk : gk < B
  lB : B ≤ wr.heap.size
theorem own_block {w : World} {B n : Nat} {e : TypeId} {v : Value} {xs : List Value} (h : w.ownsRow B e 1 v n xs) {g : Nat} (hg : v.ownBlock = some g) : B ≤ g := by
  rcases h.2 with ⟨h0, h1⟩ | ⟨k, cap, cur, hv, hb, _⟩
  · rw [h0] at hg; simp [Value.ownBlock] at hg
  · rw [hv] at hg; simp [Value.ownBlock] at hg; omega
theorem Rw.below {w wr w' : World} {B r gp gk : Nat} {gv : Value} {G : List Int} {R : Rg} (h : Rw w wr B r gp gk gv G R) (hb : Below wr.heap.size wr w') : Rw w w' B r gp gk gv G R :=
  ⟨h.rn.below hb, h.row.kept (row := none) ⟨hb.os, hb.tape, hb.output, hb.size, fun b hb1 _ => hb.block b hb1⟩ (by cases HH : Value.ownBlock _ <;> simp), h.cl, h.lr, h.lp, h.lk, Nat.le_trans h.lB hb.size⟩
theorem own_int {w : World} {B n : Nat} {a : Option Addr} {c : Nat} {l : List Int} (h : w.ownsRow B 3 1 (.slice a n c) n (l.map cellI)) {i : Nat} (hi : i < n) : ∃ g, a = some ⟨g, 0, none⟩ ∧ B ≤ g ∧ g < w.heap.size ∧ w.cell? ⟨g, i, none⟩ = some (.int .i64 (l.getD i 0)) := by
  have hl : l.length = n := by have := h.1; simpa using this
  rcases h.2 with ⟨h0, h1⟩ | ⟨g, cap, cur, hv, hb, hg, hnc, _⟩
  · omega
  · simp at hv
    obtain ⟨rfl, rfl⟩ := hv
    have hil : i < l.length := by omega
    have e := h.cells (g := g) rfl i (cellI l[i]) (by simp [hil])
    have ea : (⟨g, 0, none⟩ : Addr).add i = ⟨g, i, none⟩ := by unfold Addr.add; split <;> simp_all
    rw [ea] at e
    refine ⟨g, rfl, hb, cell_block e, ?_⟩
    rw [e]
    simp [List.getD, hil, cellI]
theorem u64_one : u64 1 := by simp [u64]
theorem i64_zero : i64 0 := by simp [i64]
theorem own_kp {w w' : World} {B gp gk n : Nat} {e : TypeId} {v : Value} {xs : List Value} (h : w.ownsRow B e 1 v n xs) (k : Kp w w' gp gk) (h1 : gp < B) (h2 : gk < B) : w'.ownsRow B e 1 v n xs := by
  refine ⟨h.1, ?_⟩
  rcases h.2 with h0 | ⟨g, cap, cur, hv, hb, hg, r⟩
  · exact .inl h0
  · have hlt : g < w.heap.size := by
      rcases Nat.lt_or_ge g w.heap.size with q | q
      · exact q
      · rw [Array.getElem?_eq_none q] at hg; cases hg
    exact .inr ⟨g, cap, cur, hv, hb, (k.block g hlt (by omega) (by omega)).trans hg, r⟩
theorem Rw.step {w wr w' : World} {B r gp gk : Nat} {gv : Value} {G : List Int} {R R' : Rg} (h : Rw w wr B r gp gk gv G R) (hr : RingAt w' r gp gk R') (hi : Inv R') (k : Kp wr w' gp gk) (hc : R'.cl = R.cl) : Rw w w' B r gp gk gv G R' :=
  ⟨h.rn.step hr hi k, own_kp h.row k h.lp h.lk, by rw [hc]; exact h.cl, h.lr, h.lp, h.lk, Nat.le_trans h.lB k.size⟩
theorem Rw.append {w wr w' : World} {B r gp gk : Nat} {gv gv' : Value} {G : List Int} {R : Rg} {n : Int} (h : Rw w wr B r gp gk gv G R) (ha : Appended B 3 wr w' gv gv' (G.length + 1) (G.map cellI ++ [cellI n])) :
    Rw w w' B r gp gk gv' (G ++ [n]) (R.withCl (fun b => gv'.ownBlock = some b)) := by
  have hg := ha.grown
  have hsz : ∀ b, gv'.ownBlock = some b → b < w'.heap.size := fun b hb => (World.ownsRow.lt ha.row b hb).2
  have ne : ∀ g, gv.ownBlock = some g → B ≤ g := fun g e => own_block h.row e
  have hB : w.heap.size ≤ B := by have := h.rn.gp; have := h.lp; omega
  refine ⟨⟨h.rn.ring.grow (og := gv.ownBlock) h.rn.inv.lens hg.size (fun b hb hn => hg.block b hb (fun e => hn e.symm)) (fun g e => ⟨h.cl g e, ?_, ?_, ?_⟩) _ (fun b hb => ⟨?_, hsz b hb⟩), h.rn.inv.withCl _, ?_, h.rn.gp, h.rn.gk⟩, ?_, fun g e => e, h.lr, h.lp, h.lk, Nat.le_trans h.lB hg.size⟩
  · have := ne g e; have := h.lr; omega
  · have := ne g e; have := h.lp; omega
  · have := ne g e; have := h.lk; omega
  · rcases ha.new b hb with q | q
    · exact .inl (h.cl b q)
    · exact .inr q
  · exact h.rn.bel.trans ⟨hg.os, hg.tape, hg.output, hg.size, fun b hb => hg.block b (by have := h.rn.bel.size; omega) (fun e => by have := ne b e.symm; omega)⟩
  · have hr := ha.row
    simpa using hr
/-- A list of one's own, just begun. -/
theorem Rw.start {w w2 : World} {r gp gk : Nat} {R : Rg} (h : Rn w w2 r gp gk R) : Rw w (w2.alloc (.cells #[] 3)) w2.heap.size r gp gk (.slice (some ⟨w2.heap.size, 0, none⟩) 0 0) [] (R.withCl (fun b => b = w2.heap.size)) := by
  have hb := below_one w2 (.cells #[] 3)
  have hlt := h.ring.lt
  refine ⟨⟨h.ring.fresh h.inv.lens hb (Nat.le_refl _) (by simp), h.inv.withCl _, h.bel.trans (hb.mono h.bel.size), h.gp, h.gk⟩, ⟨rfl, .inr ⟨w2.heap.size, 0, #[], rfl, Nat.le_refl _, heap_alloc_new w2 _, Nat.le_refl _, by decide, rfl, rfl⟩⟩, fun g e => ?_, hlt.1, hlt.2.1, hlt.2.2, by simp⟩
  simp [Value.ownBlock] at e
  exact e.symm
end Go.Proofs.YtkkkldglceiiiaaGreat

/- Of: the circle of those that live, sorted by their places (slices.SortFunc by the shelf's contract). -/
namespace Go.Proofs.YtkkkldglceiiiaaGreat
open Go.ChangeShapes Go.WideShapes Go.ChangeAt Go.RowKit Go.Deep
set_option linter.unusedVariables false

set_option maxRecDepth 100000 in
set_option maxHeartbeats 2000000 in
theorem live_own (r gp gk : Nat) (R : Rg) (w : World) (h : RingAt w r gp gk R) :
    Calls Tryz.prog 21 #[.pointer (some ⟨r, 0, none⟩)] w fun e w' => ∃ a c, e = .returned (.slice a R.live.length c) ∧ w'.ownsRow w.heap.size 3 1 (.slice a R.live.length c) R.live.length (R.live.map cellI) ∧ Below w.heap.size w w' := by
  obtain ⟨i0, hi, hz0, hz1, hz2⟩ := info_of Tryz.infoInt
  have H : Hid (RingAt w r gp gk R) := h
  clear h
  go_enter Tryz.func21, Tryz.ntmps21
  go_wp2
  go_loopg [5, 3] 32 (fun kx s v wr => ∃ k : Nat, s = .int .i64 k ∧ k ≤ 32 ∧ kx = 32 - k ∧ Hid (Below w.heap.size w wr) ∧ Hid (wr.ownsRow w.heap.size 3 1 v (R.liveTo k).length ((R.liveTo k).map cellI)))
  case atStart => exact ⟨0, rfl, Nat.zero_le _, rfl, (Below.refl _ _ : Below w.heap.size w w), World.ownsRow_nil w w.heap.size 3 1⟩
  case round =>
    obtain ⟨k, rfl, hk, rfl, HB, HO⟩ := hrel
    by_cases hlt : k < 32
    · have hl := liveTo_len R k
      cases hq : R.lives k
      · have HQ : Hid _ := hq
        have E : Hid (R.liveTo (k + 1) = R.liveTo k) := by show R.liveTo (k + 1) = R.liveTo k; simp [Rg.liveTo, hq]
        clear hq
        go_wp2_with (go_at_call 39; refine (lives_r _ _ _ _ _ _ (H.out.below HB.out)).mono ?_; rintro e w' ⟨rfl, hb⟩; rw [HQ.out])
        go_roundg (32 - (k + 1))
        case measure => omega
        case rel => exact ⟨k + 1, by go_num, by omega, rfl, HB.out.trans (hb.mono HB.out.size), by rw [E.out]; exact HO.out.kept (row := none) ⟨hb.os, hb.tape, hb.output, hb.size, fun b hb1 _ => hb.block b hb1⟩ (by cases HH : Value.ownBlock _ <;> simp)⟩
      · have HQ : Hid _ := hq
        have E : Hid (R.liveTo (k + 1) = R.liveTo k ++ [(k : Int)]) := by show R.liveTo (k + 1) = _; simp [Rg.liveTo, hq]
        clear hq
        go_wp2_with fail
        refine (lives_r _ _ _ _ _ _ (H.out.below HB.out)).mono ?_
        rintro e w2 ⟨rfl, hb⟩
        rw [HQ.out]
        have HO2 : Hid ((w2.alloc (.cells #[.int .i64 k] 3)).ownsRow w.heap.size 3 1 u3 (R.liveTo k).length ((R.liveTo k).map cellI)) := (HO.out.kept (row := none) (w' := w2) ⟨hb.os, hb.tape, hb.output, hb.size, fun b hb1 _ => hb.block b hb1⟩ (by cases HH : Value.ownBlock _ <;> simp)).alloc (.cells #[.int .i64 k] 3)
        have HS : Hid (Src Tryz.prog 1 30 (.slice (some ⟨w2.heap.size, 0, none⟩) 1 1) 1 [cellI k] (w2.alloc (.cells #[.int .i64 k] 3))) := Src.ofSlice _ Tryz.underlying30 _ _ _ _ rfl (World.news_of_block (cs := #[.int .i64 k]) (t := 3) (fr := (0, 0)) (heap_alloc_new w2 _)) (by simp [cellI, Value.oneCell'])
        have B2 : Hid (Below w.heap.size w w2) := HB.out.trans (hb.mono HB.out.size)
        clear hb
        go_wp2_with (at_builtin; refine wpList_own_append _ rfl _ _ 30 30 rfl w.heap.size 3 i0 _ 8 Tryz.underlying30 hi hz0 hz1 hz2 rfl _ _ _ rfl HO2.out _ 1 [cellI k] rfl HS.out ?c3 ?c4 ?c5 ?_)
        case c3 => unfold maxLen; omega
        case c4 => omega
        case c5 => have := B2.out.size; simp; omega
        intro v' w3 ha
        have HA : Hid _ := ha
        clear ha
        go_wp2
        go_roundg (32 - (k + 1))
        case measure => omega
        case rel =>
          refine ⟨k + 1, by go_num, by omega, rfl, ?_, ?_⟩
          · have hg := HA.out.grown
            have b3 : Below w.heap.size w (w2.alloc (.cells #[.int .i64 k] 3)) := B2.out.trans ((below_one _ _).mono B2.out.size)
            exact b3.trans ⟨hg.os, hg.tape, hg.output, hg.size, fun b hb1 => hg.block b (by have := b3.size; omega) (fun e => by have := (World.ownsRow.lt HO2.out b e.symm).1; omega)⟩
          · have hr := HA.out.row
            rw [E.out]
            refine (show w3.ownsRow w.heap.size 3 1 v' (R.liveTo k ++ [(k : Int)]).length ((R.liveTo k ++ [(k : Int)]).map cellI) from ?_)
            simpa using hr
    · obtain rfl : k = 32 := by omega
      obtain ⟨a, c, hv⟩ : ∃ a c, u3 = .slice a (R.liveTo 32).length c := by
        rcases HO.out.2 with ⟨h0, h1⟩ | ⟨g, cap, cur, hv, _⟩
        · exact ⟨none, 0, by rw [h0, h1]⟩
        · exact ⟨_, _, hv⟩
      subst hv
      go_wp2
      go_ret
      have hl := liveTo_len R 32
      exact ⟨a, c, rfl, HO.out, HB.out⟩

def cfI (x y : Int) : Int := if x < y then -1 else if y < x then 1 else 0
theorem cf_lt (x y : Int) : cfI x y < 0 ↔ x < y := by
  unfold cfI
  split
  · rename_i h; exact ⟨fun _ => h, fun _ => by decide⟩
  · rename_i h
    split
    · exact ⟨fun q => absurd q (by decide), fun q => absurd q h⟩
    · exact ⟨fun q => absurd q (by decide), fun q => absurd q h⟩
theorem nan_id (x : Int) (w : World) : Calls Tryz.prog 42 #[.int .u64 x] w fun e w' => e = .returned (.bool false) ∧ w' = w := by
  have e : (x != x) = false := by simp
  go_enter Tryz.func42, Tryz.ntmps42
  go_wp2
  go_ret
  exact ⟨rfl, rfl⟩
theorem cmp_id (x y : Int) (w : World) : Calls Tryz.prog 24 #[.int .u64 x, .int .u64 y] w fun e w' => e = .returned (.int .i64 (cfI x y)) ∧ w' = w := by
  by_cases h1 : x < y
  · have E : Hid (cfI x y = -1) := (by unfold cfI; rw [if_pos h1] : cfI x y = -1)
    go_enter Tryz.func24, Tryz.ntmps24
    go_wp2_with (go_at_call 42; refine (nan_id _ _).mono ?_; rintro e w' ⟨rfl, rfl⟩)
    go_ret
    exact ⟨ret_i E.out.symm, rfl⟩
  · by_cases h2 : y < x
    · have E : Hid (cfI x y = 1) := (by unfold cfI; rw [if_neg h1, if_pos h2] : cfI x y = 1)
      go_enter Tryz.func24, Tryz.ntmps24
      go_wp2_with (go_at_call 42; refine (nan_id _ _).mono ?_; rintro e w' ⟨rfl, rfl⟩)
      go_ret
      exact ⟨ret_i E.out.symm, rfl⟩
    · have E : Hid (cfI x y = 0) := (by unfold cfI; rw [if_neg h1, if_neg h2] : cfI x y = 0)
      go_enter Tryz.func24, Tryz.ntmps24
      go_wp2_with (go_at_call 42; refine (nan_id _ _).mono ?_; rintro e w' ⟨rfl, rfl⟩)
      go_ret
      exact ⟨ret_i E.out.symm, rfl⟩
/-- The comparison: by places. -/
theorem of1_r (r gp gk bx : Nat) (R : Rg) (x y : Int) (w : World) (h : RingAt w r gp gk R) (hb : w.cell? ⟨bx, 0, none⟩ = some (.pointer (some ⟨r, 0, none⟩))) :
    Calls Tryz.prog 23 (#[.int .i64 x, .int .i64 y] ++ #[.pointer (some ⟨bx, 0, none⟩)]) w fun e w' => e = .returned (.int .i64 (cfI (R.idOf x) (R.idOf y))) ∧ ∃ q, w' = w.drewN q := by
  have H : Hid (RingAt w r gp gk R) := h
  have z := cell_block hb
  clear h
  show Calls Tryz.prog 23 #[.int .i64 x, .int .i64 y, .pointer (some ⟨bx, 0, none⟩)] w _
  go_enter Tryz.func23, Tryz.ntmps23
  go_wp2_with (go_quiet (first
    | (go_at_call 25; exact Calls.quiet_of_same (id_r _ _ _ _ _ _ (H.out.below ⟨rfl, rfl, rfl, Nat.le_refl _, fun _ _ => rfl⟩)))
    | (go_at_call 24; exact Calls.quiet_of_same (cmp_id _ _ _))))
  go_ret
  exact ⟨rfl, _, rfl⟩

/-- For the sorting of 23. -/
theorem sw_size {α : Type} [Inhabited α] (enc : α → Value) (w : World) (blk off n : Nat) (dk : Array α) (os : Array Obj) : w.heap.size ≤ (Go.Proofs.sortWorld enc w blk off n dk os).heap.size := by
  simp [Go.Proofs.sortWorld, Go.Sort.grow, Go.Sort.putRow, Go.Sort.mapBlock, Go.Sort.ahead]
/-- For the sorting of 23. -/
theorem sw_block {α : Type} [Inhabited α] (enc : α → Value) (w : World) (blk off n : Nat) (dk : Array α) (os : Array Obj) {b : Nat} (hb : b < w.heap.size) (hne : b ≠ blk) : (Go.Proofs.sortWorld enc w blk off n dk os).heap[b]? = w.heap[b]? := by
  simp [Go.Proofs.sortWorld, Go.Sort.grow, Go.Sort.putRow, Go.Sort.mapBlock, Go.Sort.ahead, Array.getElem?_append, hb]
  rw [Array.getElem_modify, if_neg (Ne.symm hne)]

theorem enter_of1 (args : Array Value) (w : World) : (callFunc 23 args).run Tryz.prog w = .ok (.enter 23 args) w := by kernel_rfl
/-- For the sorting of 23. -/
theorem swo_id (f : Int → Int) : Go.Sort.SWO (Go.Proofs.ltOf fun x y => cfI (f x) (f y)) := by
  refine ⟨fun x => ?_, fun x y z h1 h2 => ?_, fun x y z h1 h2 => ?_⟩
  · simp only [Go.Proofs.ltOf, decide_eq_false_iff_not, cf_lt]; omega
  · simp only [Go.Proofs.ltOf, decide_eq_true_eq, cf_lt] at *; omega
  · simp only [Go.Proofs.ltOf, decide_eq_false_iff_not, cf_lt] at *; omega
/-- For the sorting of 23. -/
theorem getBang (d : Array Int) (j : Nat) (hj : j < d.size) : d[j]! = d.toList.getD j 0 := by
  have h : d.toList.getD j 0 = d.toList[j]'(by simpa using hj) := by simp [List.getD, hj]
  rw [h, getElem!_pos d j hj]; rfl
theorem sort_live (B r gp gk blk cap bx : Nat) (R : Rg) (w : World) (h : RingAt w r gp gk R) (hi : Inv R) (hcl : R.cl blk) (h1 : r ≠ blk) (h2 : gp ≠ blk) (h3 : gk ≠ blk)
    (hbx : w.cell? ⟨bx, 0, none⟩ = some (.pointer (some ⟨r, 0, none⟩))) (hbn : bx ≠ blk) (hrow : w.ownsRow B 3 1 (.slice (some ⟨blk, 0, none⟩) R.live.length cap) R.live.length (R.live.map cellI)) :
    Calls Tryz.prog 22 #[.slice (some ⟨blk, 0, none⟩) R.live.length cap, .func (.func 23) #[] #[.pointer (some ⟨bx, 0, none⟩)]] w fun e w' =>
      e = .returned (.tuple #[]) ∧ ∃ C, Cir R C ∧ InIn w' (some ⟨blk, 0, none⟩) R.live.length C ∧ w.heap.size ≤ w'.heap.size ∧ (∀ b, b < w.heap.size → b ≠ blk → w'.heap[b]? = w.heap[b]?) ∧ w'.os = w.os ∧ w'.tape = w.tape ∧ w'.output = w.output := by
  have hll : R.live.length ≤ 32 := liveTo_len R 32
  have h4 := live_four hi
  have hblk : blk < w.heap.size := by
    obtain ⟨g, e, _, hg, _⟩ := own_int hrow (i := 0) (by omega)
    cases e; exact hg
  have hold : Go.Sort.Holds (Value.int .i64) w blk 0 R.live.toArray := by
    intro j hj
    have hj' : j < R.live.length := by simpa using hj
    obtain ⟨g, e, _, _, hc⟩ := own_int hrow (i := j) hj'
    cases e
    refine ⟨?_, ?_⟩
    · rw [Nat.zero_add, hc, getBang _ _ hj]
    · rcases hrow.2 with ⟨h0, _⟩ | ⟨g, cap', cur, hv, _, hg, _⟩
      · cases h0
      · simp at hv
        rw [← hv.1] at hg
        simp [World.frozen?, hg]
  have hc : Go.Proofs.CmpReads Tryz.prog 23 #[.pointer (some ⟨bx, 0, none⟩)] (Value.int .i64) (fun x y => cfI (R.idOf x) (R.idOf y)) blk 0 R.live.toArray.size w := by
    intro m os dk hs x y
    have hb : bx < w.heap.size := cell_block hbx
    refine of1_r r gp gk bx (R.withCl R.cl) x y _ (h.grow (og := some blk) hi.lens (sw_size _ _ _ _ _ _ _) (fun b hb hn => sw_block _ _ _ _ _ _ _ hb (fun e => hn (by rw [e]))) (fun g e => by cases e; exact ⟨hcl, h1, h2, h3⟩) R.cl (fun b hb => ⟨.inl hb, Nat.lt_of_lt_of_le (h.old b hb) (sw_size _ _ _ _ _ _ _)⟩)) ?_
    rw [← hbx]
    exact World.cell?_of_block (sw_block _ _ _ _ _ _ _ hb hbn)
  refine (Go.Proofs.Tryz.slices_SortFunc (Value.int .i64) (fun _ => rfl) (fun x y => cfI (R.idOf x) (R.idOf y)) (swo_id R.idOf) 23 #[.pointer (some ⟨bx, 0, none⟩)] blk 0 cap R.live.toArray w enter_of1 hc.lays hold hblk (by simp; omega)).mono ?_
  rintro e w' ⟨he, d', n, os, hp, hs, rfl⟩
  have hsz : d'.size = R.live.length := by have := hp.1; simpa using this
  have hpm : d'.toList.Perm R.live := by
    have := hp.2.2
    have e1 : (d'.extract 0 R.live.toArray.size) = d' := by rw [← hp.1]; simp
    have e2 : (R.live.toArray.extract 0 R.live.toArray.size) = R.live.toArray := by simp
    rw [e1, e2] at this
    simpa using this
  have hnd : d'.toList.Nodup := hpm.nodup_iff.2 (live_nodup R 32)
  have hlv : ∀ x, x ∈ d'.toList ↔ R.lives x = true := fun x => by
    rw [hpm.mem_iff]
    exact ⟨fun q => ((mem_live R x).1 q).2.2, fun q => hi.in_live q⟩
  refine ⟨he, d'.toList, ⟨?_, hlv, by simpa using hsz⟩, ⟨by simpa using hsz, by omega, .inr ⟨blk, 0, rfl, Nat.lt_of_lt_of_le hblk (sw_size _ _ _ _ _ _ _), fun j hj => ?_⟩⟩, sw_size _ _ _ _ _ _ _, fun b hb hn => sw_block _ _ _ _ _ _ _ hb hn, rfl, rfl, rfl⟩
  · rw [List.pairwise_iff_getElem]
    intro i j hi' hj' hij
    have hi2 : i < d'.size := by simpa using hi'
    have hj2 : j < d'.size := by simpa using hj'
    have q := hs i j (Nat.zero_le _) hij (by simp; omega)
    have ei : d'[i]! = d'.toList[i] := by rw [getElem!_pos d' i hi2]; rfl
    have ej : d'[j]! = d'.toList[j] := by rw [getElem!_pos d' j hj2]; rfl
    simp only [Go.Proofs.ltOf, decide_eq_false_iff_not, cf_lt] at q
    rw [ei, ej] at q
    have hne : R.idOf d'.toList[i] ≠ R.idOf d'.toList[j] := fun e => by
      have := hi.inj _ _ ((hlv _).1 (List.getElem_mem _)) ((hlv _).1 (List.getElem_mem _)) e
      exact List.pairwise_iff_getElem.1 hnd i j hi' hj' hij this
    omega
  · have hj2 : j < d'.size := by omega
    have hx : d'.toList.getD j 0 ∈ d'.toList := by
      have e0 : d'.toList.getD j 0 = d'.toList[j]'(by simpa using hj2) := by simp [List.getD, hj2]
      rw [e0]; exact List.getElem_mem _
    have hr := hi.rng _ ((hlv _).1 hx)
    refine ⟨by unfold i64; omega, fun k hk => ?_⟩
    obtain rfl : k = 0 := by omega
    have hq := (Go.Proofs.holds_sortWorld (Value.int .i64) w blk 0 n R.live.toArray d' os hblk hold hp.1 j hj2).1
    rw [getBang d' j hj2] at hq
    simpa [encI] using hq
end Go.Proofs.YtkkkldglceiiiaaGreat

/- Of, whole. -/
namespace Go.Proofs.YtkkkldglceiiiaaGreat
open Go.ChangeShapes Go.WideShapes Go.ChangeAt Go.RowKit Go.Deep
set_option linter.unusedVariables false

def cellP (n : Int) : Value := .int .u64 n
theorem live_withCl (R : Rg) (D : Nat → Prop) (k : Nat) : (R.withCl D).liveTo k = R.liveTo k := by
  induction k with
  | zero => rfl
  | succ k ih => unfold Rg.liveTo; rw [ih]; rfl
theorem blk_lt {w : World} {p : Nat} {o : Obj} (h : w.heap[p]? = some o) : p < w.heap.size := by
  rcases Nat.lt_or_ge p w.heap.size with q | q
  · exact q
  · rw [Array.getElem?_eq_none q] at h; cases h
theorem pair_set1 {w : World} {p : Nat} {a b : Value} {t : TypeId} (h : w.heap[p]? = some (.cells #[a, b] t (0, 0))) (u : Value) : (w.setCell ⟨p, 1, none⟩ u).heap[p]? = some (.cells #[a, u] t (0, 0)) := by
  have hlt := blk_lt h
  have h' : w.heap[p] = .cells #[a, b] t (0, 0) := by simpa [Array.getElem?_eq_getElem hlt] using h
  show (w.heap.modify p _)[p]? = _
  rw [Array.getElem?_eq_getElem (by simpa using hlt), Array.getElem_modify_self, h']
  rfl
theorem row_setCell {w : World} {B n : Nat} {e : TypeId} {v : Value} {xs : List Value} (h : w.ownsRow B e 1 v n xs) {p o : Nat} (hp : v.ownBlock ≠ some p) (u : Value) : (w.setCell ⟨p, o, none⟩ u).ownsRow B e 1 v n xs := by
  refine ⟨h.1, ?_⟩
  rcases h.2 with h0 | ⟨g, cap, cur, hv, hb, hg, q⟩
  · exact .inl h0
  · refine .inr ⟨g, cap, cur, hv, hb, ?_, q⟩
    rw [Below.heap_setCell _ _ _ _ (by show g ≠ p; intro e; apply hp; rw [hv, e]; rfl)]
    exact hg
theorem InRow.setCell {α : Type} {enc : α → List Value} {ok : α → Prop} {d : α} {k : Nat} {w : World} {a : Option Addr} {n : Nat} {l : List α} (h : InRow k enc ok d w a n l) {p o : Nat} (hp : ∀ x, a = some x → x.block ≠ p) (u : Value) : InRow k enc ok d (w.setCell ⟨p, o, none⟩ u) a n l := by
  refine ⟨h.1, h.2.1, ?_⟩
  rcases h.2.2 with h0 | ⟨b, q, ha, hlt, hc⟩
  · exact .inl h0
  · refine .inr ⟨b, q, ha, by simpa [World.setCell] using hlt, fun i hi => ⟨(hc i hi).1, fun j hj => ?_⟩⟩
    rw [World.cell?_of_block (Below.heap_setCell _ _ _ _ (hp _ ha))]
    exact (hc i hi).2 j hj
theorem InRow.kept {α : Type} {enc : α → List Value} {ok : α → Prop} {d : α} {k : Nat} {w w' : World} {a : Option Addr} {n : Nat} {l : List α} (h : InRow k enc ok d w a n l) (hs : w.heap.size ≤ w'.heap.size) (hb : ∀ x, a = some x → x.block < w.heap.size → w'.heap[x.block]? = w.heap[x.block]?) : InRow k enc ok d w' a n l := by
  refine ⟨h.1, h.2.1, ?_⟩
  rcases h.2.2 with h0 | ⟨b, q, ha, hlt, hc⟩
  · exact .inl h0
  · refine .inr ⟨b, q, ha, Nat.lt_of_lt_of_le hlt hs, fun i hi => ⟨(hc i hi).1, fun j hj => ?_⟩⟩
    rw [World.cell?_of_block (show w'.heap[b]? = w.heap[b]? from hb _ ha hlt)]
    exact (hc i hi).2 j hj
theorem own_ids {w : World} {B n : Nat} {a : Option Addr} {c : Nat} {l : List Int} (h : w.ownsRow B 36 1 (.slice a n c) n (l.map cellP)) (hl : ∀ x ∈ l, u64 x) (hn : n ≤ 9223372036854775807) : IdIn w a n l := by
  have hlen : l.length = n := by have := h.1; simpa using this
  refine ⟨hlen, hn, ?_⟩
  rcases h.2 with ⟨h0, h1⟩ | ⟨g, cap, cur, hv, hb, hg, hnc, _⟩
  · exact .inl h1
  · simp at hv
    obtain ⟨rfl, rfl⟩ := hv
    refine .inr ⟨g, 0, rfl, blk_lt hg, fun i hi => ?_⟩
    have hil : i < l.length := by omega
    have e0 : l.getD i 0 = l[i] := by simp [List.getD, hil]
    refine ⟨by rw [e0]; exact hl _ (List.getElem_mem _), fun j hj => ?_⟩
    obtain rfl : j = 0 := by omega
    have e := h.cells (g := g) rfl i (cellP l[i]) (by simp [hil])
    have ea : (⟨g, 0, none⟩ : Addr).add i = ⟨g, i, none⟩ := by unfold Addr.add; split <;> simp_all
    rw [ea] at e
    rw [e0]
    simpa [cellP, encU] using e
/-- The places so far. -/
structure Pz (w0 w4 wr : World) (r bx cb blk n c : Nat) (C : List Int) (R : Rg) (pv : Value) (k : Nat) : Prop where
  bel : Below w0.heap.size w0 wr
  box : wr.cell? ⟨bx, 0, none⟩ = some (.pointer (some ⟨r, 0, none⟩))
  cir : wr.heap[cb]? = some (.cells #[.slice (some ⟨blk, 0, none⟩) n c, pv] 32 (0, 0))
  row : wr.ownsRow w4.heap.size 36 1 pv k (((C.map R.idOf).take k).map cellP)
  mem : InIn wr (some ⟨blk, 0, none⟩) n C
  siz : w4.heap.size ≤ wr.heap.size
  res : wr.heap[w0.heap.size + 1]? = some (.cells #[.slice none 0 0, .slice none 0 0] 32 (0, 0))

set_option maxRecDepth 100000 in
set_option maxHeartbeats 4000000 in
theorem of_r (r gp gk : Nat) (R : Rg) (w : World) (h : RingAt w r gp gk R) (hi : Inv R) :
    Calls Tryz.prog 7 #[.pointer (some ⟨r, 0, none⟩)] w fun e w' => ∃ C g b c d, e = .returned (.agg #[.slice (some ⟨g, 0, none⟩) R.live.length c, .slice b R.live.length d]) ∧ Cir R C ∧ InIn w' (some ⟨g, 0, none⟩) R.live.length C ∧ R.live.length ≤ c ∧ c ≤ 9223372036854775807 ∧ IdIn w' b R.live.length (C.map R.idOf) ∧ (R.live.length ≤ d ∧ d ≤ 9223372036854775807) ∧ Below w.heap.size w w' := by
  obtain ⟨i0, hif, hz0, hz1, hz2⟩ := info_of Tryz.infoId
  have H : Hid (RingAt w r gp gk R ∧ Inv R) := ⟨h, hi⟩
  have hll : R.live.length ≤ 32 := liveTo_len R 32
  have h4 := live_four hi
  clear h hi
  obtain ⟨W1, hW1⟩ : ∃ W1, W1 = (w.alloc (.cells #[.pointer (some ⟨r, 0, none⟩)] 22)).alloc (.cells #[.slice none 0 0, .slice none 0 0] 32) := ⟨_, rfl⟩
  have b1 : Hid (Below w.heap.size w W1) := by rw [hW1]; exact (below_one _ _).trans ((below_one _ _).mono (by simp))
  have x0 : W1.cell? ⟨w.heap.size, 0, none⟩ = some (.pointer (some ⟨r, 0, none⟩)) := by
    rw [hW1, World.cell?_alloc_lt _ _ ⟨w.heap.size, 0, none⟩ (by simp)]; simp
  have z1 : W1.heap.size = w.heap.size + 2 := by rw [hW1]; simp
  have hres : W1.heap[w.heap.size + 1]? = some (.cells #[.slice none 0 0, .slice none 0 0] 32 (0, 0)) := by
    rw [hW1]; simpa using heap_alloc_new (w.alloc (.cells #[.pointer (some ⟨r, 0, none⟩)] 22)) (.cells #[.slice none 0 0, .slice none 0 0] 32)
  have xz : w.heap.size < W1.heap.size := by omega
  go_enter Tryz.func7, Tryz.ntmps7
  go_upto_region 1 with fail
  rw [← hW1]
  clear hW1
  go_wp2_with fail
  refine (live_own r gp gk R _ (H.out.1.below b1.out)).mono ?_
  rintro e w2 ⟨a, c, rfl, hrow, hb2⟩
  obtain ⟨blk, hblk, hB, hlt, _⟩ := own_int hrow (i := 0) (by omega)
  subst hblk
  have hcap := own_caps hrow
  obtain ⟨W3, hW3⟩ : ∃ W3, W3 = w2.alloc (.cells #[.slice (some ⟨blk, 0, none⟩) R.live.length c, .slice none 0 0] 32) := ⟨_, rfl⟩
  have b3 : Below w2.heap.size w2 W3 := by rw [hW3]; exact below_one _ _
  have b13 : Below W1.heap.size W1 W3 := hb2.trans (b3.mono hb2.size)
  have s3 : W3.heap.size = w2.heap.size + 1 := by rw [hW3]; simp
  have hs2 := hb2.size
  have q0 := cell_grown x0 b13
  have q3 : W3.heap[w2.heap.size]? = some (.cells #[.slice (some ⟨blk, 0, none⟩) R.live.length c, .slice none 0 0] 32 (0, 0)) := by rw [hW3]; exact heap_alloc_new w2 _
  have u0 : W3.cell? ⟨w2.heap.size, 0, none⟩ = some (.slice (some ⟨blk, 0, none⟩) R.live.length c) := by simp [World.cell?, q3]
  have uz := cell_block u0
  have HR3 : Hid (RingAt W3 r gp gk (R.withCl (fun b => b = blk))) := (H.out.1.below b1.out).fresh H.out.2.lens b13 (by omega) (by omega)
  have hrl := H.out.1.lt
  have SRT : Hid _ := sort_live W1.heap.size r gp gk blk c w.heap.size (R.withCl (fun b => b = blk)) W3 HR3.out (H.out.2.withCl _) rfl (by omega) (by omega) (by omega) q0 (by omega) (by
    have e : (R.withCl (fun b => b = blk)).live = R.live := live_withCl R _ 32
    rw [e]
    exact hrow.kept (row := none) ⟨b3.os, b3.tape, b3.output, b3.size, fun b hb1 _ => b3.block b hb1⟩ (by cases HH : Value.ownBlock _ <;> simp))
  rw [show (R.withCl (fun b => b = blk)).live = R.live from live_withCl R _ 32] at SRT
  have HC3 : Hid (R.live.length ≤ c ∧ c ≤ 9223372036854775807) := hcap
  have HB3 : Hid (Below w.heap.size w W3 ∧ W3.heap[w2.heap.size]? = some (.cells #[.slice (some ⟨blk, 0, none⟩) R.live.length c, .slice none 0 0] 32 (0, 0)) ∧ W3.cell? ⟨w.heap.size, 0, none⟩ = some (.pointer (some ⟨r, 0, none⟩)) ∧ w.heap.size + 2 ≤ blk ∧ blk < w2.heap.size ∧ W3.heap[w.heap.size + 1]? = some (.cells #[.slice none 0 0, .slice none 0 0] 32 (0, 0))) := ⟨b1.out.trans (b13.mono b1.out.size), q3, q0, by omega, hlt, (b13.block _ (by omega)).trans hres⟩
  clear hrow hb2 hB hcap b3 b13 hrl hres
  go_upto_region 2 with fail
  rw [← hW3]
  clear hW3 x0 xz
  go_wp2_with fail
  refine Calls.mono SRT.out ?_
  rintro e w4 ⟨rfl, C, hC, hm4, hs4, hbl4, ho4, ht4, hp4⟩
  have hs4' := hs4
  have HP : Hid (Pz w w4 w4 r w.heap.size w2.heap.size blk R.live.length c C R (.slice none 0 0) 0) := by
    have hB := HB3.out
    refine ⟨⟨ho4.trans hB.1.os, ht4.trans hB.1.tape, hp4.trans hB.1.output, Nat.le_trans hB.1.size hs4, fun b hb => (hbl4 b (by have := hB.1.size; omega) (by omega)).trans (hB.1.block b hb)⟩, ?_, (hbl4 _ (by omega) (by omega)).trans hB.2.1, ?_, hm4, Nat.le_refl _, (hbl4 _ (by omega) (by omega)).trans hB.2.2.2.2.2⟩
    · rw [← hB.2.2.1]
      exact World.cell?_of_block (hbl4 w.heap.size (cell_block hB.2.2.1) (by have := hB.2.2.2.1; omega))
    · simpa using World.ownsRow_nil w4 w4.heap.size 36 1
  have HCC : Hid (Cir R C) := ⟨hC.rise, hC.mem, hC.len.trans (congrArg List.length (live_withCl R _ 32))⟩
  have hk4 := HP.out.cir
  have v0 : w4.cell? ⟨w2.heap.size, 0, none⟩ = some (.slice (some ⟨blk, 0, none⟩) R.live.length c) := by simp [World.cell?, hk4]
  have vz := cell_block v0
  have hz24 : w2.heap.size < w4.heap.size := vz
  clear hC hm4 hbl4 ho4 ht4 hp4 hk4 u0 uz q0 q3 SRT HR3 hs4 hs4'
  go_wp2
  go_loopg [16] R.live.length (fun kx s wr => ∃ k : Nat, s = .int .i64 k ∧ k ≤ R.live.length ∧ kx = R.live.length - k ∧ Hid (∃ pv, Pz w w4 wr r w.heap.size w2.heap.size blk R.live.length c C R pv k))
  case atStart => exact ⟨0, rfl, Nat.zero_le _, rfl, ⟨_, HP.out⟩⟩
  case round =>
    obtain ⟨k, rfl, hk, rfl, HB⟩ := hrel
    clear HP v0 vz
    obtain ⟨pv, hP⟩ := HB.out
    have HP : Hid (Pz w w4 wr r w.heap.size w2.heap.size blk R.live.length c C R pv k) := hP
    have hkc := hP.cir
    have hsz := hP.siz
    obtain ⟨pa, pc, hpv⟩ : ∃ pa pc, pv = .slice pa k pc := by
      rcases hP.row.2 with ⟨h0, h1⟩ | ⟨g, cap, cur, hv, _⟩
      · exact ⟨none, 0, by rw [h0, h1]⟩
      · exact ⟨_, _, hv⟩
    subst hpv
    clear hP HB
    by_cases hlt : k < R.live.length
    · obtain ⟨b', o', e', hb', hx, hcx⟩ := HP.out.mem.one (v := Value.int .i64) (fun _ => rfl) (i := k) hlt
      simp at e'
      obtain ⟨rfl, rfl⟩ := e'
      simp only [Nat.zero_add] at hcx
      have x0 := HP.out.box
      have xz := cell_block x0
      have y1 : wr.cell? ⟨w2.heap.size, 1, none⟩ = some (.slice pa k pc) := by simp [World.cell?, hkc]
      have yz := cell_block y1
      have yf : ∀ o, wr.frozen? ⟨w2.heap.size, o, none⟩ = false := fun o => by simp [World.frozen?, hkc]
      have HE : Hid ((C.map R.idOf).take (k + 1) = (C.map R.idOf).take k ++ [R.idOf (C.getD k 0)]) := by
        show (C.map R.idOf).take (k + 1) = _
        have hkl : k < C.length := by rw [HCC.out.len]; exact hlt
        rw [List.take_succ_eq_append_getElem (by simpa using hkl)]
        simp [List.getD, hkl]
      generalize C.getD k 0 = y at hcx hx HE
      have HBD : Hid (Below w.heap.size w wr.drew) := HP.out.bel.trans (show Below w.heap.size wr wr.drew from ⟨rfl, rfl, rfl, Nat.le_refl _, fun _ _ => rfl⟩)
      have hrow := HP.out.row
      have kl : k ≤ 40 := by omega
      have hfar : some w2.heap.size ≠ (Value.slice pa k pc).ownBlock := fun e => by have := (World.ownsRow.lt hrow _ e.symm).1; omega
      go_upto_region 6 with fail
      go_region_law
        (first
          | (refine step_append_lies _ (by rfl) _ _ _ (by rfl) w4.heap.size 36 i0 _ 1 8 Tryz.underlying27 hif hz0 hz1 hz2 rfl (by omega) _ _ _ (by rfl) (by first | exact (hrow.drew).alloc _ | exact (hrow.alloc _).drew)
              ⟨wr.heap.size, 0, none⟩ 1 1 [cellP (R.idOf y)] (by rfl) (by rfl) (World.news_of_block (cs := #[.int .u64 (R.idOf y)]) (t := 36) (fr := (0, 0)) (heap_alloc_new wr.drew _)) (by simp [cellP, Value.oneCell'])
              (by omega) (by unfold maxLen; omega) (by omega) (by simp; omega) (wr.heap.size + 1) (by simp) ?_; intro gg cap w6 hown1 hgrow hat hlt3
             have hbx : w6.heap[w2.heap.size]? = some (.cells #[.slice (some ⟨blk, 0, none⟩) R.live.length c, .slice pa k pc] 32 (0, 0)) := (hgrow.block w2.heap.size (by simp; omega) (fun e => hfar e)).trans ((Below.heap_alloc wr.drew _ _ (by simpa using yz)).trans hkc)
             have hf2 : w6.frozen? ⟨w2.heap.size, 1, none⟩ = false := by simp [World.frozen?, hbx]
             have hk1 : w6.cell? ⟨w2.heap.size, 1, none⟩ = some (.slice pa k pc) := by simp [World.cell?, hbx]
             have hl2 := cell_block hk1)
          | (go_simp; go_at_call 25; refine (id_r r gp gk R y _ (H.out.1.below HBD.out)).mono ?_; rintro e w' ⟨rfl, rfl⟩))
      all_goals
        have HN : Hid (Pz w w4 (w6.setCell ⟨w2.heap.size, 1, none⟩ (.slice (some ⟨gg, 0, none⟩) (k + 1) cap)) r w.heap.size w2.heap.size blk R.live.length c C R (.slice (some ⟨gg, 0, none⟩) (k + 1) cap) (k + 1)) := by
          have hgB := (World.ownsRow.lt hown1 gg rfl).1
          have hs6 : wr.heap.size + 1 ≤ w6.heap.size := by have := hgrow.size; simpa using this
          have hblk2 := HB3.out.2.2.2.1
          have hblk3 := HB3.out.2.2.2.2.1
          have ksame : ∀ b, b < wr.heap.size → b < w4.heap.size → b ≠ w2.heap.size → (w6.setCell ⟨w2.heap.size, 1, none⟩ (.slice (some ⟨gg, 0, none⟩) (k + 1) cap)).heap[b]? = wr.heap[b]? := fun b hb hb4 hne => by
            rw [Below.heap_setCell _ _ _ _ (show b ≠ w2.heap.size from hne), hgrow.block b (by simp; omega) (fun e => by have := (World.ownsRow.lt hrow _ e.symm).1; omega)]
            exact Below.heap_alloc wr.drew _ b hb
          have hw := HP.out.bel.size
          refine ⟨⟨hgrow.os.trans HP.out.bel.os, hgrow.tape.trans HP.out.bel.tape, hgrow.output.trans HP.out.bel.output, by simp [World.setCell]; omega, fun b hb => (ksame b (by omega) (by omega) (by omega)).trans (HP.out.bel.block b hb)⟩, ?_, pair_set1 hbx _, ?_, ?_, by simp [World.setCell]; omega, (ksame _ (by omega) (by omega) (by omega)).trans HP.out.res⟩
          · rw [← HP.out.box]
            exact World.cell?_of_block (ksame w.heap.size xz (by omega) (by omega))
          · rw [HE.out, List.map_append]
            exact row_setCell hown1 (by intro e; simp [Value.ownBlock] at e; omega) _
          · exact HP.out.mem.kept (by simp [World.setCell]; omega) (fun x hx hlt => by cases hx; exact ksame blk hlt (by omega) (by omega))
        clear hown1 hgrow hat hbx hf2 hk1 hl2
        go_wp2
        go_roundg (R.live.length - (k + 1))
        case measure => omega
        case rel => exact ⟨k + 1, by go_num, by omega, rfl, ⟨_, HN.out⟩⟩
    · obtain rfl : k = R.live.length := by omega
      have hrs := HP.out.res
      have y0 : wr.cell? ⟨w2.heap.size, 0, none⟩ = some (.slice (some ⟨blk, 0, none⟩) R.live.length c) := by simp [World.cell?, hkc]
      have y1 : wr.cell? ⟨w2.heap.size, 1, none⟩ = some (.slice pa R.live.length pc) := by simp [World.cell?, hkc]
      have yz := cell_block y0
      have t0 : wr.cell? ⟨w.heap.size + 1, 0, none⟩ = some (.slice none 0 0) := by simp [World.cell?, hrs]
      have t1 : wr.cell? ⟨w.heap.size + 1, 1, none⟩ = some (.slice none 0 0) := by simp [World.cell?, hrs]
      have tz := cell_block t0
      have tf : ∀ o, wr.frozen? ⟨w.heap.size + 1, o, none⟩ = false := fun o => by simp [World.frozen?, hrs]
      have hblk2 := HB3.out.2.2.2.1
      have hne : ¬ w.heap.size + 1 = w2.heap.size := by omega
      have hne2 : ¬ w2.heap.size = w.heap.size + 1 := by omega
      clear hkc hrs
      go_wp2
      have hsml := hs2
      refine bodyPost_ret (v := .agg #[.slice (some ⟨blk, 0, none⟩) R.live.length c, .slice pa R.live.length pc]) (by simp [results, Tryz.results7, go_sem, *]) rfl ⟨C, blk, pa, c, pc, rfl, HCC.out, ?_, HC3.out.1, HC3.out.2, ?_, ?_, ?_⟩
      · exact (HP.out.mem.setCell (fun x hx => by cases hx; show blk ≠ w.heap.size + 1; omega) _).setCell (fun x hx => by cases hx; show blk ≠ w.heap.size + 1; omega) _
      · have hr := HP.out.row
        rw [List.take_of_length_le (by rw [List.length_map, HCC.out.len]; exact Nat.le_refl _)] at hr
        have hid := own_ids hr (fun x hx => by
          obtain ⟨y, _, rfl⟩ := List.mem_map.1 hx
          exact H.out.2.u y) (by omega)
        have hf : ∀ x, pa = some x → x.block ≠ w.heap.size + 1 := fun x hx => by
          have := own_new hr x hx
          omega
        exact (hid.setCell hf _).setCell hf _
      · rcases HP.out.row.2 with ⟨_, h0⟩ | ⟨g, cap, cur, hv, _, _, hnc, hcm, _⟩
        · omega
        · simp at hv
          unfold maxLen at hcm
          omega
      · exact (HP.out.bel.setCell (by simp) _).setCell (by simp) _
end Go.Proofs.YtkkkldglceiiiaaGreat

/- slices.Concat of two lists of ints, of whatever length; slices.Index at ints. -/
namespace Go.Proofs.YtkkkldglceiiiaaGreat
open Go.ChangeShapes Go.WideShapes Go.ChangeAt Go.RowKit Go.Deep
set_option linter.unusedVariables false

/-- append(nil, make([]int, m)...). -/
theorem run_growN (m : Nat) (hm1 : 3 ≤ m) (hm2 : m ≤ 40) (w : World) (ty : TypeId) :
    (Builtin.append_ #[30, 3] ty #[.slice none 0 0, .int .i64 (m : Int)]).run Tryz.prog w =
      .ok (.slice (some ⟨w.heap.size, 0, none⟩) m (grownCap w m 0 3)) (w.drew.alloc (.cells (Builtin.zeroCells #[.int .i64 0] m ++ Builtin.zeroCells #[.int .i64 0] (grownCap w m 0 3 - m)) 3)) := by
  obtain ⟨i0, hi, hz0, hz1, hz2⟩ := info_of Tryz.infoInt
  have hs : IntKind.i64.wrap (m : Int) = (m : Int) := (by simp [IntKind.wrap, IntKind.bits, IntKind.signed]; omega)
  have hs2 : ¬ ((m : Int) < 0) := by omega
  have hs3 : ¬ (281474976710656 < (m : Int) * 8) := by omega
  have hs4 : ¬ m = 0 := by omega
  have hs5 : 0 < m := by omega
  simp [Builtin.append_, run_underlying Tryz.underlying30, run_underlying Tryz.underlying3, sizeOf, typeInfo, zeroValue, hi, hz0, hz1, hz2, Question.forced, newRow, grownCap, Builtin.firstCells, asInt, asIntOf, hs, hs2, hs3, hs4, hs5, Builtin.nextslicecap, Value.cells, askRoom]
  rw [if_neg (by omega), if_neg (by omega)]

set_option maxRecDepth 100000 in
set_option maxHeartbeats 1000000 in
theorem growN_r (m : Nat) (hm1 : 3 ≤ m) (hm2 : m ≤ 40) (w : World) :
    Calls Tryz.prog 35 #[.slice none 0 0, .int .i64 (m : Int)] w fun e w' => ∃ v, e = .returned v ∧ w'.ownsRow w.heap.size 3 1 v 0 [] ∧ Below w.heap.size w w' := by
  have hc1 : m ≤ grownCap w m 0 3 := grownCap_ge w m 0 3
  have hc2 : grownCap w m 0 3 ≤ maxLen := grownCap_le_maxLen w m 0 3 (by unfold maxLen; omega)
  have hr := run_growN m hm1 hm2 w
  obtain ⟨W, hW⟩ : ∃ W, W = w.drew.alloc (.cells (Builtin.zeroCells #[.int .i64 0] m ++ Builtin.zeroCells #[.int .i64 0] (grownCap w m 0 3 - m)) 3) := ⟨_, rfl⟩
  have HB : Hid (Below w.heap.size w W) := by rw [hW]; exact (Below.refl _ _ : Below w.heap.size w w).trans ⟨rfl, rfl, rfl, by simp, fun k hk => Below.heap_alloc w.drew _ k hk⟩
  have HG : Hid (W.heap[w.heap.size]? = some (.cells (Builtin.zeroCells #[.int .i64 0] m ++ Builtin.zeroCells #[.int .i64 0] (grownCap w m 0 3 - m)) 3 (0, 0))) := by rw [hW]; exact heap_alloc_new w.drew _
  generalize grownCap w m 0 3 = c at *
  rw [← hW] at hr
  have HR : Hid _ := hr
  clear hr hW
  unfold maxLen at hc2
  have hc3 : 0 ≤ c := by omega
  go_enter Tryz.func35, Tryz.ntmps35
  go_wp2_with (at_builtin; refine wpList_append_run rfl _ _ 30 3 rfl _ _ rfl rfl _ _ (HR.out _) ?_)
  go_ret
  refine ⟨_, rfl, ?_, HB.out⟩
  exact ⟨rfl, .inr ⟨w.heap.size, c, _, rfl, Nat.le_refl _, HG.out, by omega, by unfold maxLen; omega, by simp [size_zeroCells]; omega, rfl⟩⟩

set_option maxRecDepth 100000 in
set_option maxHeartbeats 2000000 in
/-- Concat of two lists, some more in all. -/
theorem concat_n (m : Nat) (hm1 : 3 ≤ m) (hm2 : m ≤ 40) (g : Nat) (a1 : Option Addr) (n1 c1 : Nat) (l1 : List Int) (a2 : Option Addr) (n2 c2 : Nat) (l2 : List Int) (w : World) (h0 : w.cell? ⟨g, 0, none⟩ = some (.slice a1 n1 c1)) (h1 : w.cell? ⟨g, 1, none⟩ = some (.slice a2 n2 c2))
    (hl1 : InIn w a1 n1 l1) (hl2 : InIn w a2 n2 l2) (hn1 : a1 = none → n1 = 0) (hn2 : a2 = none → n2 = 0) (h3 : n1 + n2 = m) :
    Calls Tryz.prog 14 #[.slice (some ⟨g, 0, none⟩) 2 2] w fun e w' => ∃ a c, e = .returned (.slice a m c) ∧ InIn w' a m (l1 ++ l2) ∧ m ≤ c ∧ c ≤ 9223372036854775807 ∧ a ≠ none ∧ (∀ x, a = some x → w.heap.size ≤ x.block) ∧ Below w.heap.size w w' := by
  obtain ⟨i0, hi, hz0, hz1, hz2⟩ := info_of Tryz.infoInt
  have HL : Hid (InIn w a1 n1 l1 ∧ InIn w a2 n2 l2 ∧ (a1 = none → n1 = 0) ∧ (a2 = none → n2 = 0)) := ⟨hl1, hl2, hn1, hn2⟩
  have hg : g < w.heap.size := cell_block h0
  have q1 : (n1 : Int) + (n2 : Int) = (m : Int) := by omega
  have q2 : ¬ (n1 : Int) < 0 := by omega
  have q3 : ¬ (n1 : Int) + (n2 : Int) < 0 := by omega
  have HC : Hid (w.cell? ⟨g, 0, none⟩ = some (.slice a1 n1 c1) ∧ w.cell? ⟨g, 1, none⟩ = some (.slice a2 n2 c2)) := ⟨h0, h1⟩
  have hb1 : (n1 : Int) ≤ 40 := by omega
  have hb2 : (n2 : Int) ≤ 40 := by omega
  clear hl1 hl2 hn1 hn2
  go_enter Tryz.func14, Tryz.ntmps14
  go_wp2
  refine wp_loop_rounds 3 ?_
  rw [rounds_succ]
  go_wp2
  rw [rounds_succ]
  go_wp2
  rw [rounds_succ]
  go_wp2_with fail
  refine (growN_r m hm1 hm2 _).mono ?_
  rintro e w2 ⟨v, rfl, hv, hb⟩
  have HB2 : Hid (Below w.heap.size w w2) := hb
  have HV : Hid (w2.ownsRow w.heap.size 3 1 v 0 []) := hv
  have x0 := cell_grown HC.out.1 hb
  have x1 := cell_grown HC.out.2 hb
  have z2 : g < w2.heap.size := by have := hb.size; omega
  have HS1 : Hid (Src Tryz.prog 1 30 (.slice a1 n1 c1) n1 (l1.map cellI) w2) := src_ints (HL.out.1.below (Nat.le_refl _) hb) HL.out.2.2.1
  clear hv hb h0 h1
  go_wp2
  refine wp_loop_rounds 3 ?_
  rw [rounds_succ]
  go_wp2_with (at_builtin; refine wpList_own_append _ rfl _ _ 30 30 rfl w.heap.size 3 i0 _ 8 Tryz.underlying30 hi hz0 hz1 hz2 rfl _ _ _ rfl HV.out _ n1 _ rfl HS1.out ?c3 ?c4 ?c5 ?_)
  case c3 => unfold maxLen; omega
  case c4 => omega
  case c5 => exact HB2.out.size
  intro v3 w3 ha
  have hgr := ha.grown
  have HB3 : Hid (Below w.heap.size w w3) := HB2.out.trans ⟨hgr.os, hgr.tape, hgr.output, hgr.size, fun k hk => hgr.block k (by have := HB2.out.size; omega) (fun e => by have := (World.ownsRow.lt HV.out k e.symm).1; omega)⟩
  have HV3 : Hid (w3.ownsRow w.heap.size 3 1 v3 n1 (l1.map cellI)) := (show w3.ownsRow w.heap.size 3 1 v3 n1 (l1.map cellI) by simpa using ha.row)
  clear ha hgr x0 x1
  have x0 := cell_grown HC.out.1 HB3.out
  have x1 := cell_grown HC.out.2 HB3.out
  have z3 : g < w3.heap.size := by have := HB3.out.size; omega
  have HS2 : Hid (Src Tryz.prog 1 30 (.slice a2 n2 c2) n2 (l2.map cellI) w3) := src_ints (HL.out.2.1.below (Nat.le_refl _) HB3.out) HL.out.2.2.2
  go_wp2
  rw [rounds_succ]
  go_wp2_with (at_builtin; refine wpList_own_append _ rfl _ _ 30 30 rfl w.heap.size 3 i0 _ 8 Tryz.underlying30 hi hz0 hz1 hz2 rfl _ _ _ rfl HV3.out _ n2 _ rfl HS2.out ?d3 ?d4 ?d5 ?_)
  case d3 => unfold maxLen; omega
  case d4 => omega
  case d5 => exact HB3.out.size
  intro v4 w4 ha
  have hgr := ha.grown
  have HB4 : Hid (Below w.heap.size w w4) := HB3.out.trans ⟨hgr.os, hgr.tape, hgr.output, hgr.size, fun k hk => hgr.block k (by have := HB3.out.size; omega) (fun e => by have := (World.ownsRow.lt HV3.out k e.symm).1; omega)⟩
  obtain ⟨a4, c4, hv4⟩ := ha.shape
  subst hv4
  have HV4 : Hid (w4.ownsRow w.heap.size 3 1 (.slice a4 m c4) m ((l1 ++ l2).map cellI)) := (show w4.ownsRow w.heap.size 3 1 (.slice a4 m c4) m ((l1 ++ l2).map cellI) by simpa using ha.row)
  clear ha hgr
  go_wp2
  rw [rounds_succ]
  go_wp2
  go_ret
  have hk := own_caps HV4.out
  refine ⟨a4, c4, rfl, in_of_own HV4.out (fun x hx => ?_) (by omega), hk.1, hk.2, fun e => ?_, own_new HV4.out, HB4.out⟩
  · rcases List.mem_append.1 hx with h | h
    · exact ints_ok HL.out.1 x h
    · exact ints_ok HL.out.2.1 x h
  · subst e
    rcases HV4.out.2 with ⟨_, e⟩ | ⟨g, cap, cur, hv, _⟩
    · omega
    · cases hv
end Go.Proofs.YtkkkldglceiiiaaGreat

/- What an address should know; does each one know it? -/
namespace Go.Proofs.YtkkkldglceiiiaaGreat
open Go.ChangeShapes Go.WideShapes Go.ChangeAt Go.RowKit Go.Deep
set_option linter.unusedVariables false

theorem sl_from (g n c i : Nat) (W : World) (hi : i < n) (hc : n ≤ c) (hq : ¬ c = i + 1) : (Instr.slice 30 (.slice (some ⟨g, 0, none⟩) n c) (some (.int .i64 ((i : Int) + 1))) none none).run Tryz.prog W = .ok (.slice (some ⟨g, i + 1, none⟩) (n - (i + 1)) (c - (i + 1))) W := by
  simp [go_sem, Tryz.underlying30]
  rw [if_pos ⟨by omega, by omega⟩, if_neg hq]
theorem sl_end (g n : Nat) (i : Nat) (W : World) (hi : n = i + 1) : (Instr.slice 30 (.slice (some ⟨g, 0, none⟩) n n) (some (.int .i64 ((i : Int) + 1))) none none).run Tryz.prog W = .ok (.slice (some ⟨g, 0, none⟩) 0 0) W := by
  subst hi
  simp [go_sem, Tryz.underlying30]
  omega
theorem sl_to (g n c i : Nat) (W : World) (hi : i < n) (hc : n ≤ c) : (Instr.slice 30 (.slice (some ⟨g, 0, none⟩) n c) none (some (.int .i64 (i : Int))) none).run Tryz.prog W = .ok (.slice (some ⟨g, 0, none⟩) i c) W := by
  simp [go_sem, Tryz.underlying30]
  omega
theorem sl_to3 (g o n c : Nat) (W : World) (hn : 3 ≤ n) (hc : n ≤ c) : (Instr.slice 30 (.slice (some ⟨g, o, none⟩) n c) none (some (.int .i64 3)) none).run Tryz.prog W = .ok (.slice (some ⟨g, o, none⟩) 3 c) W := by
  simp [go_sem, Tryz.underlying30]
  omega
theorem know_some {R : Rg} {n : Int} {p : Pe} (h : R.kn n = some p) : R.know n = p := by simp [Rg.know, h]
theorem lives_none {R : Rg} {n : Int} (h : R.kn n = none) : R.lives n = false := by simp [Rg.lives, h]
theorem zero_pe0 (w : World) : (zeroValue 54).run Tryz.prog w = .ok (.agg #[.int .u64 0, .int .i64 0, .slice none 0 0]) w := by kernel_rfl

end Go.Proofs.YtkkkldglceiiiaaGreat

/- Who may go: lists with two that live; a ring that nobody left. The base of the document's example. No program in sight. -/
namespace Go.Proofs.YtkkkldglceiiiaaGreat
set_option linter.unusedVariables false

/-- A list with two that live. -/
def Dbl (m : Int) (R : Rg) : Prop := ∃ x y, x ∈ (R.know m).succ ∧ y ∈ (R.know m).succ ∧ x ≠ y ∧ R.lives x = true ∧ R.lives y = true
theorem Inv.free {R : Rg} (h : Inv R) (hd : ∀ m, R.lives m = true → Dbl m R) {n : Int} (hn : R.lives n = true) (h4 : 4 ≤ n) : R.failC n = 0 := by
  have hnd : R.needed n = false := by
    unfold Rg.needed anyF
    rw [List.any_eq_false]
    intro m hm
    have hl := ((mem_live R m).1 hm).2.2
    obtain ⟨x, y, hx, hy, hxy, lx, ly⟩ := hd m hl
    have key : ∃ z ∈ (R.know m).succ, (fun x => x != -1 && (x != n && R.lives x)) z = true := by
      have rx := (h.rng x lx).1
      have ry := (h.rng y ly).1
      by_cases e : x = n
      · refine ⟨y, hy, ?_⟩
        have : y ≠ n := fun q => hxy (e.trans q.symm)
        simp [ly, this]; omega
      · refine ⟨x, hx, ?_⟩
        simp [lx, e]; omega
    have hs := (headF_spec key).1
    simp only [Bool.and_eq_true, bne_iff_ne] at hs
    unfold Rg.lone
    have e1 : (headF (fun x => x != -1 && (x != n && R.lives x)) (R.know m).succ == -1) = false := by simpa using hs.1
    rw [e1]; simp
  unfold Rg.failC
  rw [hn, hnd]
  have : ¬ n < 4 := by omega
  simp [this]
/-- Nobody went. -/
def NW (R : Rg) : Prop := ∀ x, (R.pl x).isSome = true → R.lives x = true
theorem Inv.dbl_nw {R : Rg} (h : Inv R) (hw : NW R) (m : Int) (hm : R.lives m = true) : Dbl m R := by
  have hl := h.len m hm
  have hall : ∀ x ∈ (R.know m).succ, R.lives x = true := fun x hx => hw x (h.mem m hm x hx)
  have hc := h.ch m hm
  unfold Dbl
  match hs : (R.know m).succ, hl with
  | [s1, s2, s3], _ =>
    rw [hs] at hall hc
    have l1 := hall s1 (by simp)
    have l2 := hall s2 (by simp)
    simp only [Chain, l1, l2, if_true] at hc
    exact ⟨s1, s2, by simp, by simp, fun e => h.apart hc.2.1 e.symm, l1, l2⟩
theorem NW.join {R : Rg} (hw : NW R) (n id via : Int) : NW (R.join n id via) := by
  unfold Rg.join
  split
  · intro x hx
    rw [pl_joined] at hx
    rw [lives_joined]
    split
    · rfl
    · rename_i e; rw [if_neg e] at hx; exact hw x hx
  · exact hw
theorem NW.round {R : Rg} (h : Inv R) (hw : NW R) : NW R.round := by
  intro x hx
  rw [lives_round h]
  rw [(round_alike R).2] at hx
  exact hw x hx
theorem pl_round (R : Rg) : R.round.pl = R.pl := (round_alike R).2
theorem idOf_round (R : Rg) (x : Int) : R.round.idOf x = R.idOf x := (round_alike R).idOf x

theorem ringA_pl (x : Int) : (ringA.pl x).isSome = true ↔ 0 ≤ x ∧ x < 4 := by
  have e : ringA.pl x = if x = 3 then some 40 else if x = 2 then some 30 else if x = 1 then some 20 else if x = 0 then some 10 else none := rfl
  rw [e]
  split
  · simp; omega
  · split
    · simp; omega
    · split
      · simp; omega
      · split
        · simp; omega
        · simp; omega
theorem ringA_lives (x : Int) : ringA.lives x = true ↔ 0 ≤ x ∧ x < 4 := by
  have e : ringA.kn x = if x = 3 then some ⟨40, 2, [0, 1, 2]⟩ else if x = 2 then some ⟨30, 1, [3, 0, 1]⟩ else if x = 1 then some ⟨20, 0, [2, 3, 0]⟩ else if x = 0 then some ⟨10, 3, [1, 2, 3]⟩ else none := rfl
  unfold Rg.lives
  rw [e]
  split
  · simp; omega
  · split
    · simp; omega
    · split
      · simp; omega
      · split
        · simp; omega
        · simp; omega
theorem ringA_inv : Inv ringA := by
  have hp : ids4.Pairwise (· < ·) := by simp [ids4]
  have hm : ∀ x, x ∈ ids4 ↔ x ∈ ids4 := fun _ => Iff.rfl
  obtain ⟨c0, c1, c2, c3, hc⟩ := circ_of (l := ids4) rfl hp hm rfl
  refine hc.inv hp hm (fun k => ?_)
  match k with
  | 0 => simp [ids4, Plc]
  | 1 => simp [ids4, Plc]
  | 2 => simp [ids4, Plc]
  | 3 => simp [ids4, Plc]
  | k + 4 => simp [ids4, Plc]
theorem ringA_nw : NW ringA := fun x hx => (ringA_lives x).2 ((ringA_pl x).1 hx)

theorem joinC_of {R : Rg} {n id via : Int} (h0 : 0 ≤ n) (h1 : n < 32) (hp : (R.pl n).isSome = false) (hv : R.lives via = true) : R.joinC n id via = if R.taken id then 8 else if R.ahead id via = -1 then 5 else 0 := by
  unfold Rg.joinC
  rw [if_neg (by omega), hp, hv]
  simp
theorem taken_of {R : Rg} {n id : Int} (h : Inv R) (hn : R.lives n = true) (hid : R.idOf n = id) : R.taken id = true := by
  unfold Rg.taken anyF
  rw [List.any_eq_true]
  exact ⟨n, h.in_live hn, by simp [hid]⟩
theorem not_taken_of {R : Rg} {id : Int} (h : ∀ n, R.lives n = true → R.idOf n ≠ id) : R.taken id = false := by
  unfold Rg.taken anyF
  rw [List.any_eq_false]
  intro n hn
  simpa using h n ((mem_live R n).1 hn).2.2
/-- What the calls of ChordTaken come to. -/
theorem taken_calls {n m id : Int} (hn : 4 ≤ n) (hn2 : n < 32) (hm : 4 ≤ m) (hm2 : m < 32) (hne : n ≠ m) (hid : Plc id) :
    (ringA.joinC n id 0 = 8 ∧ (ringA.join n id 0).joinC m id 1 = 8) ∨
    (ringA.joinC n id 0 = 0 ∧ (ringA.join n id 0).joinC m id 1 = 8 ∧ (((ringA.join n id 0).join m id 1).round).failC n = 0 ∧
      ((((ringA.join n id 0).join m id 1).round.fail n).round).joinC m id 2 = 0 ∧
      (((((ringA.join n id 0).join m id 1).round.fail n).round).join m id 2).lives m = true ∧ (((((ringA.join n id 0).join m id 1).round.fail n).round).join m id 2).lives n = false) := by
  have hi := ringA_inv
  have pn : (ringA.pl n).isSome = false := by
    cases h : (ringA.pl n).isSome
    · rfl
    · have := (ringA_pl n).1 h; omega
  have pm : (ringA.pl m).isSome = false := by
    cases h : (ringA.pl m).isSome
    · rfl
    · have := (ringA_pl m).1 h; omega
  have j1 := joinC_of (R := ringA) (id := id) (via := 0) (by omega) hn2 pn (hi.base 0 (by omega) (by omega))
  cases ht : ringA.taken id
  · rw [ht] at j1
    have ha := hi.ahead (via := 0) hid ht (hi.base 0 (by omega) (by omega))
    have hr := (hi.rng _ ha.1).1
    rw [if_neg (by simp), if_neg (by omega)] at j1
    right
    refine ⟨j1, ?_⟩
    have hi1 := hi.join n id 0 hid
    have nw1 := ringA_nw.join n id 0
    have e1 : ringA.join n id 0 = ringA.joined n id (ringA.ahead id 0) := if_pos j1
    have lv1 : ∀ x, (ringA.join n id 0).lives x = if x = n then true else ringA.lives x := fun x => by rw [e1, lives_joined]
    have pl1 : ∀ x, (ringA.join n id 0).pl x = if x = n then some id else ringA.pl x := fun x => by rw [e1, pl_joined]
    have io1 : ∀ x, (ringA.join n id 0).idOf x = if x = n then id else ringA.idOf x := fun x => by unfold Rg.idOf; rw [pl1]; split <;> rfl
    generalize ringA.join n id 0 = R1 at *
    have tk : R1.taken id = true := taken_of hi1 (n := n) (by rw [lv1, if_pos rfl]) (by rw [io1, if_pos rfl])
    have j2 : R1.joinC m id 1 = 8 := by
      rw [joinC_of (by omega) hm2 (by rw [pl1, if_neg (Ne.symm hne)]; exact pm) (hi1.base 1 (by omega) (by omega)), tk]; rfl
    have e2 : R1.join m id 1 = R1 := by unfold Rg.join; rw [j2]; rfl
    rw [e2]
    refine ⟨j2, ?_⟩
    have hi2 := hi1.round
    have nw2 := nw1.round hi1
    have ln : R1.round.lives n = true := by rw [lives_round hi1, lv1, if_pos rfl]
    have f := hi2.free (hi2.dbl_nw nw2) ln hn
    refine ⟨f, ?_⟩
    have hi3 := hi2.fail n
    have e3 : R1.round.fail n = R1.round.delK n := if_pos f
    rw [e3] at hi3 ⊢
    have hi4 := hi3.round
    have lv4 : ∀ x, (R1.round.delK n).round.lives x = if x = n then false else ringA.lives x := fun x => by
      rw [lives_round hi3, lives_delK]
      split
      · rfl
      · rename_i e; rw [lives_round hi1, lv1, if_neg e]
    have pl4 : ∀ x, (R1.round.delK n).round.pl x = if x = n then some id else ringA.pl x := fun x => by
      rw [pl_round]
      show R1.round.pl x = _
      rw [pl_round, pl1]
    generalize (R1.round.delK n).round = R4 at *
    have tk4 : R4.taken id = false := not_taken_of (fun x hx => by
      rw [lv4] at hx
      by_cases e : x = n
      · rw [if_pos e] at hx; cases hx
      · rw [if_neg e] at hx
        have := not_taken ht (hi.in_live hx)
        unfold Rg.idOf at *
        rw [pl4, if_neg e]; exact this)
    have ha4 := hi4.ahead (via := 2) hid tk4 (hi4.base 2 (by omega) (by omega))
    have hr4 := (hi4.rng _ ha4.1).1
    have j4 : R4.joinC m id 2 = 0 := by
      rw [joinC_of (by omega) hm2 (by rw [pl4, if_neg (Ne.symm hne)]; exact pm) (hi4.base 2 (by omega) (by omega)), tk4, if_neg (by simp), if_neg (by omega)]
    have e5 : R4.join m id 2 = R4.joined m id (R4.ahead id 2) := if_pos j4
    refine ⟨j4, ?_, ?_⟩
    · rw [e5, lives_joined, if_pos rfl]
    · rw [e5, lives_joined, if_neg hne, lv4, if_pos rfl]
  · rw [ht] at j1
    left
    have j1' : ringA.joinC n id 0 = 8 := by rw [j1]; rfl
    have e1 : ringA.join n id 0 = ringA := by unfold Rg.join; rw [j1']; rfl
    refine ⟨j1', ?_⟩
    rw [e1, joinC_of (by omega) hm2 pm (hi.base 1 (by omega) (by omega)), ht]; rfl
end Go.Proofs.YtkkkldglceiiiaaGreat

/- What ring.Start answers. -/
namespace Go.Proofs.YtkkkldglceiiiaaGreat
open Go.ChangeShapes Go.WideShapes Go.ChangeAt Go.RowKit

end Go.Proofs.YtkkkldglceiiiaaGreat

/- Owner, Finger, Len; layer 11's answers that the document fixes. -/
namespace Go.Proofs.YtkkkldglceiiiaaGreat
open Go.ChangeShapes Go.WideShapes Go.ChangeAt Go.RowKit Go.Deep
set_option linter.unusedVariables false

set_option maxHeartbeats 2000000 in
theorem cowner_r (R : Rg) (C : List Int) (g c d n k : Nat) (b : Option Addr) (x : Int) (w : World) (hm : InIn w (some ⟨g, 0, none⟩) n C) (hp : IdIn w b n (C.map R.idOf)) (h4 : 4 ≤ n) (hk : ownerN (C.map R.idOf) x = (k : Int)) (hkn : k < n) :
    Calls Tryz.prog 8 #[.agg #[.slice (some ⟨g, 0, none⟩) n c, .slice b n d], .int .u64 x] w fun e w' => e = .returned (.int .i64 (C.getD k 0)) ∧ Below w.heap.size w w' := by
  obtain ⟨W1, hW1⟩ : ∃ W1, W1 = w.alloc (.cells #[.slice (some ⟨g, 0, none⟩) n c, .slice b n d] 32) := ⟨_, rfl⟩
  have b1 : Below w.heap.size w W1 := by rw [hW1]; exact below_one _ _
  have x0 : W1.cell? ⟨w.heap.size, 0, none⟩ = some (.slice (some ⟨g, 0, none⟩) n c) := by rw [hW1]; simp
  have x1 : W1.cell? ⟨w.heap.size, 1, none⟩ = some (.slice b n d) := by rw [hW1]; simp
  have xz := cell_block x0
  have hp1 := hp.below (Nat.le_refl _) b1
  obtain ⟨pb, po, hpb, _, _, _⟩ := hp1.one (v := Value.int .u64) (fun _ => rfl) (i := 0) (by omega)
  subst hpb
  have hpm := hp1.2.1
  obtain ⟨g', o', e', hgl, _, hcx⟩ := (hm.below (Nat.le_refl _) b1).one (v := Value.int .i64) (fun _ => rfl) (i := k) hkn
  simp at e'
  obtain ⟨rfl, rfl⟩ := e'
  simp only [Nat.zero_add] at hcx
  have OW : Hid _ := owner_some pb po n d (C.map R.idOf) x W1 hp1.1 (by omega) hpm (fun j hj => by
    obtain ⟨b2, o2, e2, _, _, h2⟩ := hp1.one (v := Value.int .u64) (fun _ => rfl) (i := j) hj
    cases e2; exact h2)
  rw [hk] at OW
  have HB : Hid (Below w.heap.size w W1) := b1
  have hk0 : ¬ (k : Int) < 0 := by omega
  generalize C.getD k 0 = y at hcx
  clear hp hm b1 hp1 hk
  go_enter Tryz.func8, Tryz.ntmps8
  go_upto_region 1 with fail
  rw [← hW1]
  clear hW1
  go_wp2_with (go_at_call 26; refine Calls.mono OW.out ?_; rintro e w' ⟨rfl, rfl⟩)
  go_ret
  exact ⟨rfl, HB.out⟩
theorem livA' : ringA.liveTo 32 = [0, 1, 2, 3] := by kernel_rfl
theorem cirA {C : List Int} (h : Cir ringA C) : C = [0, 1, 2, 3] := by
  have hl : C.length = 4 := by rw [h.len]; show (ringA.liveTo 32).length = 4; rw [livA']; rfl
  have hid : ∀ x, ringA.lives x = true → ringA.idOf x = 10 * (x + 1) ∧ 0 ≤ x ∧ x < 4 := fun x hx => by
    have hr := (ringA_lives x).1 hx
    refine ⟨?_, hr⟩
    rcases (show x = 0 ∨ x = 1 ∨ x = 2 ∨ x = 3 by omega) with e | e | e | e <;> subst e <;> rfl
  match C, hl, h with
  | [a, b, c, d], _, h =>
    have ha := hid a ((h.mem a).1 (by simp))
    have hb := hid b ((h.mem b).1 (by simp))
    have hc := hid c ((h.mem c).1 (by simp))
    have hd := hid d ((h.mem d).1 (by simp))
    have hr := h.rise
    simp at hr
    have e0 : a = 0 := by omega
    have e1 : b = 1 := by omega
    have e2 : c = 2 := by omega
    have e3 : d = 3 := by omega
    rw [e0, e1, e2, e3]
theorem isA : isB ringA [0, 1, 2, 3] 4 = true := by kernel_rfl
theorem ow25 : ownerN ([0, 1, 2, 3].map ringA.idOf) 25 = ((2 : Nat) : Int) := by kernel_rfl
theorem ow41 : ownerN ([0, 1, 2, 3].map ringA.idOf) 41 = ((0 : Nat) : Int) := by kernel_rfl
theorem fi04 : ownerN ([0, 1, 2, 3].map ringA.idOf) (startN (ringA.idOf ([0, 1, 2, 3].getD 0 0)) ((4 : Nat) : Int)) = ((2 : Nat) : Int) := by kernel_rfl
theorem lenA : ringA.live.length = 4 := by show (ringA.liveTo 32).length = 4; rw [livA']; rfl
end Go.Proofs.YtkkkldglceiiiaaGreat

/- tree.Tree.Check. -/
namespace Go.Proofs.YtkkkldglceiiiaaGreat
open Go.ChangeShapes Go.WideShapes Go.ChangeAt Go.RowKit Go.Deep
set_option linter.unusedVariables false

/-- What Check says of a tree; ro: whom the circle has as the owner. -/
inductive ChkIs (t : Tr) (ro : Int) : Int → Prop where
  | none : t.root = -1 → t.up = [] → ChkIs t ro 0
  | some : t.root = -1 → t.up ≠ [] → ChkIs t ro 11
  | tells : t.root ≠ -1 → (∃ v, lookI t.up t.root = Option.some v) → ChkIs t ro 11
  | other : t.root ≠ -1 → lookI t.up t.root = Option.none → ro ≠ t.root → ChkIs t ro 11
  | calm : t.root ≠ -1 → lookI t.up t.root = Option.none → ro = t.root → (∀ x, x ∈ t.up.map (·.1) → ∃ k, t.rch k x) → ChkIs t ro 0
  | round : t.root ≠ -1 → lookI t.up t.root = Option.none → ro = t.root → (∃ x, x ∈ t.up.map (·.1) ∧ ∀ k, ¬ t.rch k x) → ChkIs t ro 13
def chkV (c : Int) : Value := if c = 0 then .nilIface else .iface 43 (.int .i64 c)

set_option maxRecDepth 100000 in
set_option maxHeartbeats 4000000 in
theorem check_any (t : Tr) (g : Nat) (gc n c : Nat) (b : Option Addr) (d : Nat) (s : ByteArray) (ro cd : Int) (w : World) (h : UpAt w g t.up) (hl : t.up.length ≤ 100000) (hi : ∀ k ∈ t.up.map (·.1), i64 k) (hs : s.size ≤ 200)
    (ho : ∀ W', Below w.heap.size w W' → Calls Tryz.prog 8 #[.agg #[.slice (some ⟨gc, 0, none⟩) n c, .slice b n d], .int .u64 (gkeyT s)] W' fun e w9 => e = .returned (.int .i64 ro) ∧ Below W'.heap.size W' w9) (hc : ChkIs t ro cd) :
    Calls Tryz.prog 10 #[.agg #[.int .i64 t.root, .map (some g)], .agg #[.slice (some ⟨gc, 0, none⟩) n c, .slice b n d], .string s] w fun e w' => e = .returned (chkV cd) ∧ Below w.heap.size w w' := by
  obtain ⟨root, up⟩ := t
  simp only at h hl hi
  obtain ⟨q, hq⟩ : ∃ q, q = w.heap.size := ⟨_, rfl⟩
  obtain ⟨W, hW⟩ : ∃ W, W = (w.alloc (.cells #[.int .i64 root, .map (some g)] 40)).alloc (.cells #[.slice (some ⟨gc, 0, none⟩) n c, .slice b n d] 32) := ⟨_, rfl⟩
  have b1 : Below w.heap.size w (w.alloc (.cells #[.int .i64 root, .map (some g)] 40)) := below_one _ _
  have b2 : Below (w.alloc (.cells #[.int .i64 root, .map (some g)] 40)).heap.size (w.alloc (.cells #[.int .i64 root, .map (some g)] 40)) W := by rw [hW]; exact below_one _ _
  have bW : Below w.heap.size w W := b1.trans (b2.mono b1.size)
  have c0 : W.cell? ⟨q, 0, none⟩ = some (.int .i64 root) := cell_grown (by rw [hq]; exact World.cell?_alloc_new ..) b2
  have c1 : W.cell? ⟨q, 1, none⟩ = some (.map (some g)) := cell_grown (by rw [hq]; simp) b2
  have d0 : W.cell? ⟨q + 1, 0, none⟩ = some (.slice (some ⟨gc, 0, none⟩) n c) := by rw [hW, show q + 1 = (w.alloc (.cells #[.int .i64 root, .map (some g)] 40)).heap.size by rw [hq]; simp]; exact World.cell?_alloc_new ..
  have d1 : W.cell? ⟨q + 1, 1, none⟩ = some (.slice b n d) := by rw [hW, hq]; simp
  have HB : Hid (Below w.heap.size w W) := bW
  have HU : Hid (UpAt W g up) := h.below bW
  have HI : Hid ((∀ k ∈ up.map (·.1), i64 k) ∧ up.length ≤ 100000 ∧ s.size ≤ 200) := ⟨hi, hl, hs⟩
  have HO : Hid (∀ W', Below w.heap.size w W' → Calls Tryz.prog 8 #[.agg #[.slice (some ⟨gc, 0, none⟩) n c, .slice b n d], .int .u64 (gkeyT s)] W' fun e w9 => e = .returned (.int .i64 ro) ∧ Below W'.heap.size W' w9) := ho
  have cl := cell_block c0
  have dl := cell_block d0
  clear h hl hi hs ho b1 b2 bW
  obtain ⟨ι, F, _, hF0, hFb, hFc⟩ := grown_fam W
  have g0 : ∀ i, (F i).cell? ⟨q, 0, none⟩ = _ := fun i => cell_grown c0 (hFb i)
  have g1 : ∀ i, (F i).cell? ⟨q, 1, none⟩ = _ := fun i => cell_grown c1 (hFb i)
  have g2 : ∀ i, (F i).cell? ⟨q + 1, 0, none⟩ = _ := fun i => cell_grown d0 (hFb i)
  have g3 : ∀ i, (F i).cell? ⟨q + 1, 1, none⟩ = _ := fun i => cell_grown d1 (hFb i)
  have HF : Hid ((∃ i, { W with drawn := W.drawn + 1 } = F i) ∧ (∀ i, Below W.heap.size W (F i)) ∧ (∀ i W', Below W.heap.size (F i) W' → ∃ j, W' = F j)) := ⟨hF0, hFb, hFc⟩
  have HFT : Hid (∀ i, Calls Tryz.prog 28 #[.agg #[.int .i64 root, .map (some g)], .int .i64 root] (F i) fun e w' => e = .returned (.bool (lookI up root).isSome) ∧ ∃ k, w' = F k) := fun i =>
    (tells_any root g up root (F i) (HU.out.below (hFb i))).mono (fun e w' z => ⟨z.1, hFc i w' (z.2.mono (hFb i).size)⟩)
  have HFK : Hid (∀ i, Calls Tryz.prog 9 #[.string s] (F i) fun e w' => e = .returned (.int .u64 (gkeyT s)) ∧ ∃ k, w' = F k) := fun i =>
    (gkey_t s (F i) HI.out.2.2).mono (fun e w' z => ⟨z.1, i, z.2⟩)
  have HFO : Hid (∀ i, Calls Tryz.prog 8 #[.agg #[.slice (some ⟨gc, 0, none⟩) n c, .slice b n d], .int .u64 (gkeyT s)] (F i) fun e w' => e = .returned (.int .i64 ro) ∧ ∃ k, w' = F k) := fun i =>
    (HO.out (F i) (HB.out.trans ((hFb i).mono HB.out.size))).mono (fun e w' z => ⟨z.1, hFc i w' (z.2.mono (hFb i).size)⟩)
  clear hF0 hFb hFc HO
  have hlen := fun ty => HU.out.len (P := Tryz.prog) Tryz.underlying38 ty
  have hul : (upV up).length = up.length := by simp [upV]
  rw [hul] at hlen
  go_enter Tryz.func10, Tryz.ntmps10
  go_upto_region 1 with fail
  rw [← hW]
  try rw [← hq]
  clear hW hq
  by_cases hr : root = -1
  · have e1 : (root == -1) = true := by simpa using hr
    cases hc with
    | none h1 h2 =>
      have hz : (up.length : Int) = 0 := by simp only at h2; rw [h2]; rfl
      have hz2 : ¬ (0 : Int) < (up.length : Int) := by omega
      clear h1 h2 hr hul hz
      go_wp2
      go_ret
      exact ⟨rfl, HB.out⟩
    | some h1 h2 =>
      have hz : (0 : Int) < (up.length : Int) := by
        simp only at h2
        cases up with
        | nil => exact absurd rfl h2
        | cons p m => simp
      clear h1 h2 hr hul
      go_wp2
      go_ret
      exact ⟨rfl, HB.out⟩
    | tells h1 _ => exact absurd hr h1
    | other h1 _ _ => exact absurd hr h1
    | calm h1 _ _ _ => exact absurd hr h1
    | round h1 _ _ _ => exact absurd hr h1
  · have e1 : (root == -1) = false := by simpa using hr
    clear hlen hul
    by_cases ht : ∃ v, lookI up root = Option.some v
    · have hcd : cd = 11 := by
        cases hc with
        | none h1 _ => exact absurd h1 hr
        | some h1 _ => exact absurd h1 hr
        | tells _ _ => rfl
        | other _ h2 _ => obtain ⟨v, hv⟩ := ht; exact absurd (hv.symm.trans h2) (by simp)
        | calm _ h2 _ _ => obtain ⟨v, hv⟩ := ht; exact absurd (hv.symm.trans h2) (by simp)
        | round _ h2 _ _ => obtain ⟨v, hv⟩ := ht; exact absurd (hv.symm.trans h2) (by simp)
      have het : (lookI up root).isSome = true := by obtain ⟨v, hv⟩ := ht; rw [hv]; rfl
      rw [het] at HFT
      subst hcd
      clear hc hr ht het
      go_upto_region 5 with fail
      go_cut [27] (fun v wx => v = .bool true ∧ Hid (Below W.heap.size W wx))
      case first =>
        refine wp_region_fam F HF.out.1 (by kernel_rfl) (by kernel_rfl) ?_
        repeat (go_big_quiet_step (first
          | (go_at_call 28; exact HFT.out _)))
        refine wpQuiet_nil ?_
        rintro _ ⟨i, rfl⟩
        have HB7 := HF.out.2.1 i
        go_wp2
        go_meet
        exact ⟨rfl, HB7⟩
      case rest =>
        rename World => W7
        obtain ⟨rfl, HC⟩ := hcut
        clear g0 g1 g2 g3 HF HFT HFK HFO
        go_wp2
        go_ret
        exact ⟨rfl, HB.out.trans (HC.out.mono HB.out.size)⟩
    · have het : (lookI up root).isSome = false := by
        cases hq : lookI up root with
        | none => rfl
        | some v => exact absurd ⟨v, hq⟩ ht
      have hno : lookI up root = Option.none := by
        cases hq : lookI up root with
        | none => rfl
        | some v => exact absurd ⟨v, hq⟩ ht
      rw [het] at HFT
      by_cases hro : ro = root
      · have HBL : Hid ((cd = 0 ∧ belN ⟨root, up⟩ = up.length) ∨ (cd = 13 ∧ belN ⟨root, up⟩ < up.length)) := by
          cases hc with
          | none h1 _ => exact absurd h1 hr
          | some h1 _ => exact absurd h1 hr
          | tells _ h2 => exact absurd h2 ht
          | other _ _ h3 => exact absurd hro h3
          | calm _ _ _ h4 => exact .inl ⟨rfl, belN_all h4⟩
          | round _ _ _ h4 => obtain ⟨x, h5, h6⟩ := h4; exact .inr ⟨rfl, belN_few h5 h6⟩
        have eo : (ro != root) = false := by simpa using hro
        have HNO : Hid (lookI up root = Option.none) := hno
        clear hc hr ht het hro hno
        go_upto_region 5 with fail
        go_cut [27] (fun v wx => v = .bool false ∧ Hid (Below W.heap.size W wx))
        case first =>
          refine wp_region_fam F HF.out.1 (by kernel_rfl) (by kernel_rfl) ?_
          repeat (go_big_quiet_step (first
            | (go_at_call 28; exact HFT.out _)
            | (go_at_call 9; exact HFK.out _)
            | (go_at_call 8; exact HFO.out _)))
          refine wpQuiet_nil ?_
          rintro _ ⟨i, rfl⟩
          have HB7 := HF.out.2.1 i
          go_wp2
          go_meet
          exact ⟨rfl, HB7⟩
        case rest =>
          rename World => W7
          obtain ⟨rfl, HC⟩ := hcut
          clear g0 g1 g2 g3 HF HFT HFK HFO
          have f0 := cell_grown c0 HC.out
          have f1 := cell_grown c1 HC.out
          have fl := cell_block f0
          have HU7 : Hid (UpAt W7 g up) := HU.out.below HC.out
          have HB7 : Hid (Below w.heap.size w W7) := HB.out.trans (HC.out.mono HB.out.size)
          clear c0 c1 cl d0 d1 dl HC
          obtain ⟨ι, F, _, hF0, hFb, hFc⟩ := grown_fam W7
          have g0 : ∀ i, (F i).cell? ⟨q, 0, none⟩ = _ := fun i => cell_grown f0 (hFb i)
          have g1 : ∀ i, (F i).cell? ⟨q, 1, none⟩ = _ := fun i => cell_grown f1 (hFb i)
          have hul : (upV up).length = up.length := by simp [upV]
          have hlen : ∀ i ty, (Builtin.len_ #[38] ty #[.map (some g)]).run Tryz.prog (F i) = .ok (.int .i64 up.length) (F i) := fun i ty => by
            have := (HU7.out.below (hFb i)).len (P := Tryz.prog) Tryz.underlying38 ty
            rw [hul] at this; exact this
          have HF : Hid ((∃ i, { W7 with drawn := W7.drawn + 1 } = F i) ∧ (∀ i, Below W7.heap.size W7 (F i))) := ⟨hF0, hFb⟩
          obtain ⟨bn, hbn⟩ : ∃ k, k = belN ⟨root, up⟩ := ⟨_, rfl⟩
          rw [← hbn] at HBL
          have HFB : Hid (∀ i, Calls Tryz.prog 29 #[.agg #[.int .i64 root, .map (some g)]] (F i) fun e w' => e = .returned (.int .i64 bn) ∧ ∃ k, w' = F k) := fun i =>
            (below_any ⟨root, up⟩ g (F i) (HU7.out.below (hFb i)) HI.out.2.1 HI.out.1 HNO.out).mono (fun e w' z => ⟨by rw [z.1, hbn], hFc i w' (z.2.mono (hFb i).size)⟩)
          clear hF0 hFb hFc hul hbn
          go_upto_region 7 with fail
          rcases HBL.out with ⟨hcd, hb⟩ | ⟨hcd, hb⟩
          · have hb2 : ¬ (bn : Int) < (up.length : Int) := by omega
            subst hcd
            clear hb HBL
            go_cut [34] (fun v wx => v = .bool false ∧ Hid (Below W7.heap.size W7 wx))
            case first =>
              refine wp_region_fam F HF.out.1 (by kernel_rfl) (by kernel_rfl) ?_
              repeat (go_big_quiet_step (first
                | (go_at_call 29; exact HFB.out _)))
              refine wpQuiet_nil ?_
              rintro _ ⟨i, rfl⟩
              have HB8 := HF.out.2 i
              go_wp2
              go_meet
              exact ⟨by simp, HB8⟩
            case rest =>
              rename World => W8
              obtain ⟨rfl, HC⟩ := hcut
              clear g0 g1 hlen HF HFB
              go_wp2
              go_ret
              exact ⟨rfl, HB7.out.trans (HC.out.mono HB7.out.size)⟩
          · have hb2 : (bn : Int) < (up.length : Int) := by omega
            subst hcd
            clear hb HBL
            go_cut [34] (fun v wx => v = .bool true ∧ Hid (Below W7.heap.size W7 wx))
            case first =>
              refine wp_region_fam F HF.out.1 (by kernel_rfl) (by kernel_rfl) ?_
              repeat (go_big_quiet_step (first
                | (go_at_call 29; exact HFB.out _)))
              refine wpQuiet_nil ?_
              rintro _ ⟨i, rfl⟩
              have HB8 := HF.out.2 i
              go_wp2
              go_meet
              exact ⟨by simp, HB8⟩
            case rest =>
              rename World => W8
              obtain ⟨rfl, HC⟩ := hcut
              clear g0 g1 hlen HF HFB
              go_wp2
              go_ret
              exact ⟨rfl, HB7.out.trans (HC.out.mono HB7.out.size)⟩
      · have hcd : cd = 11 := by
          cases hc with
          | none h1 _ => exact absurd h1 hr
          | some h1 _ => exact absurd h1 hr
          | tells _ _ => rfl
          | other _ _ _ => rfl
          | calm _ _ h3 _ => exact absurd h3 hro
          | round _ _ h3 _ => exact absurd h3 hro
        have eo : (ro != root) = true := by simpa using hro
        subst hcd
        clear hc hr ht het hro hno
        go_upto_region 5 with fail
        go_cut [27] (fun v wx => v = .bool true ∧ Hid (Below W.heap.size W wx))
        case first =>
          refine wp_region_fam F HF.out.1 (by kernel_rfl) (by kernel_rfl) ?_
          repeat (go_big_quiet_step (first
            | (go_at_call 28; exact HFT.out _)
            | (go_at_call 9; exact HFK.out _)
            | (go_at_call 8; exact HFO.out _)))
          refine wpQuiet_nil ?_
          rintro _ ⟨i, rfl⟩
          have HB7 := HF.out.2.1 i
          go_wp2
          go_meet
          exact ⟨rfl, HB7⟩
        case rest =>
          rename World => W7
          obtain ⟨rfl, HC⟩ := hcut
          clear g0 g1 g2 g3 HF HFT HFK HFO
          go_wp2
          go_ret
          exact ⟨rfl, HB.out.trans (HC.out.mono HB.out.size)⟩
theorem mk_up (w : World) : ∃ W g, (Instr.makeMap 38 none).run Tryz.prog w = .ok (.map (some g)) W ∧ UpAt W g [] ∧ Below w.heap.size w W ∧ w.heap.size ≤ g :=
  ⟨w.alloc (.map #[] 0), w.heap.size, run_makeMap 38 w, MpK.made w, below_one _ _, Nat.le_refl _⟩
theorem put_up {w : World} {g : Nat} {m : List (Int × Int)} (h : UpAt w g m) (k v : Int) (hk : lookI m k = none) :
    ∃ W, (Instr.mapUpdate 38 (.map (some g)) (.int .i64 k) (.int .i64 v)).run Tryz.prog w = .ok () W ∧ UpAt W g (m ++ [(k, v)]) ∧ ∀ B w0, B ≤ g → Below B w0 w → Below B w0 W := by
  obtain ⟨o, h1, h2⟩ := h.put (P := Tryz.prog) key_int Tryz.underlying38 (k := k) (by rw [look_upV, hk]; rfl) (.int .i64 v)
  rw [upV_snoc] at h2
  exact ⟨_, h1, h2, fun B w0 hB hw => setB_below hw hB o⟩
end Go.Proofs.YtkkkldglceiiiaaGreat

/- Trees of those whose ways all end at one. No program in sight. -/
namespace Go.Proofs.YtkkkldglceiiiaaGreat
set_option linter.unusedVariables false

def itr (s : Int → Int) : Nat → Int → Int
  | 0, n => n
  | k + 1, n => itr s k (s n)
theorem itr_out (s : Int → Int) : ∀ (k : Nat) (n : Int), itr s (k + 1) n = s (itr s k n)
  | 0, n => rfl
  | k + 1, n => by show itr s (k + 1) (s n) = _; rw [itr_out s k (s n)]; rfl
theorem itr_fix (s : Int → Int) {r : Int} (h : s r = r) : ∀ k, itr s k r = r
  | 0 => rfl
  | k + 1 => by show itr s k (s r) = r; rw [h]; exact itr_fix s h k
/-- All ways end at one. -/
structure Conv (nx : Int → Option Int) (L : Int → Prop) (s : Int → Int) (r : Int) : Prop where
  nx : ∀ n, L n → nx n = some (s n)
  cl : ∀ n, L n → L (s n)
  fx : ∀ n, L n → s n = n → n = r
  en : ∀ n, L n → ∃ k, k < 60 ∧ itr s k n = r
  rt : s r = r ∧ L r ∧ r ≠ -1
section
variable {nx : Int → Option Int} {L : Int → Prop} {s : Int → Int} {r : Int}
theorem Conv.live (c : Conv nx L s r) {n : Int} (h : L n) : ∀ k, L (itr s k n) := fun k => by
  induction k with
  | zero => exact h
  | succ k ih => rw [itr_out]; exact c.cl _ ih
/-- Whose next one is of the tree, but maybe the one at which the walk stands. -/
def CloE (t : Tr) (cur : Int) : Prop := ∀ a v, lookI t.up a = some v → t.has v = true ∨ v = cur
def Clo (t : Tr) : Prop := ∀ a v, lookI t.up a = some v → t.has v = true
theorem has_inT {t : Tr} {n : Int} : t.has n = true ↔ t.inT n := by
  rw [Tr.has_iff]; unfold Tr.inT; exact Or.comm
structure TrL (nx : Int → Option Int) (L : Int → Prop) (t : Tr) : Prop where
  ok : TrOk nx t
  li : ∀ n, t.inT n → L n
theorem Conv.in_all (c : Conv nx L s r) {t : Tr} (ht : TrL nx L t) (hc : Clo t) {n : Int} (hn : t.inT n) : ∀ k, t.inT (itr s k n) := fun k => by
  induction k with
  | zero => exact hn
  | succ k ih =>
    rw [itr_out]
    rcases ih with ⟨h1, h2⟩ | ⟨v, hv⟩
    · have := ht.ok.rt h1
      rw [← h2] at this
      rw [c.nx _ (ht.li _ (.inl ⟨h1, h2⟩))] at this
      rw [Option.some.inj this]
      exact .inl ⟨h1, h2⟩
    · have h1 := (ht.ok.st _ _ hv).1
      rw [c.nx _ (ht.li _ (.inr ⟨v, hv⟩))] at h1
      rw [Option.some.inj h1]
      exact has_inT.1 (hc _ _ hv)
theorem Conv.root_in (c : Conv nx L s r) {t : Tr} (ht : TrL nx L t) (h : t.inT r) : t.root = r := by
  rcases h with ⟨_, h⟩ | ⟨v, hv⟩
  · exact h.symm
  · have := ht.ok.st _ _ hv
    rw [c.nx _ c.rt.2.1, c.rt.1] at this
    exact absurd (Option.some.inj this.1).symm this.2
theorem Conv.root_is (c : Conv nx L s r) {t : Tr} (ht : TrL nx L t) (h : t.root ≠ -1) : t.root = r := by
  have hl := ht.li _ (.inl ⟨h, rfl⟩)
  have := ht.ok.rt h
  rw [c.nx _ hl] at this
  exact c.fx _ hl (Option.some.inj this)
theorem Conv.walk (c : Conv nx L s r) : ∀ (k f : Nat) (t : Tr) (n : Int), L n → itr s k n = r → k < f → TrL nx L t → CloE t n →
    ∃ t', walkT nx f t n = (0, t') ∧ TrL nx L t' ∧ Clo t' ∧ t'.root = r ∧ ∀ a, t'.inT a ↔ t.inT a ∨ ∃ j, a = itr s j n := by
  intro k
  induction k with
  | zero =>
    intro f t n hn hk hf ht hc
    obtain ⟨f, rfl⟩ : ∃ g, f = g + 1 := ⟨f - 1, by omega⟩
    have hnr : n = r := hk
    subst hnr
    have hs := c.rt.1
    cases hh : t.has n with
    | true =>
      have hi := has_inT.1 hh
      refine ⟨t, by simp [walkT, hh], ht, fun a v hv => (hc a v hv).elim id (fun e => by rw [e]; exact hh), c.root_in ht hi, fun a => ⟨.inl, ?_⟩⟩
      rintro (h | ⟨j, rfl⟩)
      · exact h
      · rw [itr_fix s hs]; exact hi
    | false =>
      have hroot : t.root = -1 := by
        apply Classical.byContradiction
        intro h
        have := has_inT.2 (show t.inT n from .inl ⟨h, (c.root_is ht h).symm⟩)
        rw [hh] at this; cases this
      refine ⟨⟨n, t.up⟩, by simp [walkT, hh, c.nx n hn, hs, hroot], ⟨ht.ok.made (by rw [c.nx n hn, hs]), ?_⟩, fun a v hv => ?_, rfl, fun a => ?_⟩
      · rintro a (⟨_, h2⟩ | ⟨v, hv⟩)
        · rw [h2]; exact hn
        · exact ht.li _ (.inr ⟨v, hv⟩)
      · rcases hc a v hv with h | h
        · rcases Tr.has_iff.1 h with h | ⟨h, _⟩
          · exact Tr.has_iff.2 (.inl h)
          · exact absurd hroot h
        · rw [h]; exact Tr.has_iff.2 (.inr ⟨c.rt.2.2, rfl⟩)
      · constructor
        · rintro (⟨_, h2⟩ | h)
          · exact .inr ⟨0, h2⟩
          · exact .inl (.inr h)
        · rintro (h | ⟨j, rfl⟩)
          · rcases h with ⟨h, _⟩ | h
            · exact absurd hroot h
            · exact .inr h
          · rw [itr_fix s hs]; exact .inl ⟨c.rt.2.2, rfl⟩
  | succ k ih =>
    intro f t n hn hk hf ht hc
    obtain ⟨f, rfl⟩ : ∃ g, f = g + 1 := ⟨f - 1, by omega⟩
    cases hh : t.has n with
    | true =>
      have hi := has_inT.1 hh
      have hcl : Clo t := fun a v hv => (hc a v hv).elim id (fun e => by rw [e]; exact hh)
      have hall := c.in_all ht hcl hi
      refine ⟨t, by simp [walkT, hh], ht, hcl, c.root_in ht (by have := hall (k + 1); rw [hk] at this; exact this), fun a => ⟨.inl, ?_⟩⟩
      rintro (h | ⟨j, rfl⟩)
      · exact h
      · exact hall j
    | false =>
      by_cases hs : s n = n
      · -- it is its own next: it is the one
        have hnr := c.fx n hn hs
        have := itr_fix s hs k
        have hk0 : itr s 0 n = r := hnr
        have hroot : t.root = -1 := by
          apply Classical.byContradiction
          intro h
          have := has_inT.2 (show t.inT n from .inl ⟨h, by rw [c.root_is ht h]; exact hnr⟩)
          rw [hh] at this; cases this
        refine ⟨⟨n, t.up⟩, by simp [walkT, hh, c.nx n hn, hs, hroot], ⟨ht.ok.made (by rw [c.nx n hn, hs]), ?_⟩, fun a v hv => ?_, hnr, fun a => ?_⟩
        · rintro a (⟨_, h2⟩ | ⟨v, hv⟩)
          · rw [h2]; exact hn
          · exact ht.li _ (.inr ⟨v, hv⟩)
        · have hne : n ≠ -1 := by rw [hnr]; exact c.rt.2.2
          rcases hc a v hv with h | h
          · rcases Tr.has_iff.1 h with h | ⟨h, _⟩
            · exact Tr.has_iff.2 (.inl h)
            · exact absurd hroot h
          · rw [h]; exact Tr.has_iff.2 (.inr ⟨hne, rfl⟩)
        · have hne : n ≠ -1 := by rw [hnr]; exact c.rt.2.2
          constructor
          · rintro (⟨_, h2⟩ | h)
            · exact .inr ⟨0, h2⟩
            · exact .inl (.inr h)
          · rintro (h | ⟨j, rfl⟩)
            · rcases h with ⟨h, _⟩ | h
              · exact absurd hroot h
              · exact .inr h
            · rw [itr_fix s hs]; exact .inl ⟨hne, rfl⟩
      · have hno := Tr.has_no hh
        have hlk : ∀ a, lookI (t.up ++ [(n, s n)]) a = if a = n then some (s n) else lookI t.up a := fun a => lookI_snoc _ _ _ _ hno.1
        have hin : ∀ a, (⟨t.root, t.up ++ [(n, s n)]⟩ : Tr).inT a ↔ t.inT a ∨ a = n := fun a => by
          unfold Tr.inT
          simp only [hlk]
          by_cases e : a = n
          · subst e; simp
          · simp [e]
        have ht' : TrL nx L ⟨t.root, t.up ++ [(n, s n)]⟩ := ⟨ht.ok.put hh (c.nx n hn) hs, fun a ha => ((hin a).1 ha).elim (ht.li a) (fun e => by rw [e]; exact hn)⟩
        have hc' : CloE ⟨t.root, t.up ++ [(n, s n)]⟩ (s n) := fun a v hv => by
          simp only [hlk] at hv
          by_cases e : a = n
          · rw [if_pos e] at hv; exact .inr (Option.some.inj hv).symm
          · rw [if_neg e] at hv
            refine .inl (has_inT.2 ((hin v).2 ?_))
            rcases hc a v hv with h | h
            · exact .inl (has_inT.1 h)
            · exact .inr h
        obtain ⟨t', h1, h2, h3, h4, h5⟩ := ih f _ (s n) (c.cl n hn) hk (by omega) ht' hc'
        refine ⟨t', by simp only [walkT, hh, Bool.false_eq_true, if_false, c.nx n hn, if_neg hs]; exact h1, h2, h3, h4, fun a => ?_⟩
        rw [h5, hin]
        constructor
        · rintro ((h | h) | ⟨j, h⟩)
          · exact .inl h
          · exact .inr ⟨0, h⟩
          · exact .inr ⟨j + 1, h⟩
        · rintro (h | ⟨j, h⟩)
          · exact .inl (.inl h)
          · cases j with
            | zero => exact .inl (.inr h)
            | succ j => exact .inr ⟨j, h⟩
theorem Conv.of (c : Conv nx L s r) : ∀ (ms : List Int) (t : Tr), (∀ m ∈ ms, L m) → TrL nx L t → Clo t →
    ∃ t', ofT nx t ms = (0, t') ∧ TrL nx L t' ∧ Clo t' ∧ (ms ≠ [] → t'.root = r) ∧ (ms = [] → t' = t) ∧ ∀ a, t'.inT a ↔ t.inT a ∨ ∃ m ∈ ms, ∃ j, a = itr s j m
  | [], t, _, ht, hc => ⟨t, ofT_nil _ _, ht, hc, fun h => absurd rfl h, fun _ => rfl, fun a => by simp⟩
  | m :: ms, t, hl, ht, hc => by
    obtain ⟨k, hk, hr⟩ := c.en m (hl m (by simp))
    obtain ⟨t1, w1, l1, c1, r1, i1⟩ := c.walk k 66 t m (hl m (by simp)) hr (by omega) ht (fun a v hv => .inl (hc a v hv))
    obtain ⟨t2, w2, l2, c2, r2, e2, i2⟩ := c.of ms t1 (fun x hx => hl x (by simp [hx])) l1 c1
    refine ⟨t2, by rw [ofT_cons, w1, if_pos rfl]; exact w2, l2, c2, fun _ => ?_, fun h => (by cases h), fun a => ?_⟩
    · by_cases h : ms = []
      · rw [e2 h]; exact r1
      · exact r2 h
    · rw [i2, i1]
      constructor
      · rintro ((h | h) | ⟨x, hx, h⟩)
        · exact .inl h
        · exact .inr ⟨m, by simp, h⟩
        · exact .inr ⟨x, by simp [hx], h⟩
      · rintro (h | ⟨x, hx, h⟩)
        · exact .inl (.inl h)
        · rcases List.mem_cons.1 hx with rfl | hx
          · exact .inl (.inr h)
          · exact .inr ⟨x, hx, h⟩
/-- What a tree of members is whose ways all end at one. -/
structure TrIs (nx : Int → Option Int) (s : Int → Int) (r : Int) (ms : List Int) (t : Tr) : Prop where
  ok : TrOk nx t
  root : t.root = if ms = [] then -1 else r
  nodes : ∀ a, t.inT a ↔ ∃ m ∈ ms, ∃ j, a = itr s j m
  up : ∀ a v, lookI t.up a = some v ↔ t.inT a ∧ a ≠ r ∧ v = s a
theorem Conv.zero (nx : Int → Option Int) (L : Int → Prop) : TrL nx L tr0 ∧ Clo tr0 := by
  refine ⟨⟨TrOk.zero nx, ?_⟩, fun a v h => by simp [tr0, lookI] at h⟩
  rintro n (⟨h, _⟩ | ⟨v, h⟩)
  · exact absurd rfl h
  · simp [tr0, lookI] at h
theorem Conv.tree (c : Conv nx L s r) (ms : List Int) (hl : ∀ m ∈ ms, L m) : (treeOf nx ms).1 = 0 ∧ TrIs nx s r ms (treeOf nx ms).2 := by
  obtain ⟨z1, z2⟩ := Conv.zero nx L
  obtain ⟨t, h1, h2, h3, h4, h5, h6⟩ := c.of ms tr0 hl z1 z2
  have hz : ∀ a, ¬ tr0.inT a := by
    rintro a (⟨h, _⟩ | ⟨v, h⟩)
    · exact h rfl
    · simp [tr0, lookI] at h
  have hr : t.root = if ms = [] then -1 else r := by
    by_cases e : ms = []
    · rw [if_pos e, h5 e]; rfl
    · rw [if_neg e]; exact h4 e
  have ht : treeOf nx ms = (0, t) := by
    unfold treeOf
    rw [h1]
    rw [if_neg (by simp), if_neg]
    rintro ⟨p, q⟩
    have : ms ≠ [] := fun e => by rw [e] at p; simp at p
    rw [if_neg this] at hr
    exact c.rt.2.2 (hr ▸ q)
  rw [ht]
  refine ⟨rfl, h2.ok, hr, fun a => by rw [h6]; exact ⟨fun h => h.resolve_left (hz a), .inr⟩, fun a v => ?_⟩
  constructor
  · intro hv
    have hi : t.inT a := .inr ⟨v, hv⟩
    have := h2.ok.st _ _ hv
    rw [c.nx a (h2.li a hi)] at this
    have hsv := Option.some.inj this.1
    refine ⟨hi, fun e => ?_, hsv.symm⟩
    rw [e, c.rt.1] at hsv
    exact this.2 (by rw [e]; exact hsv.symm)
  · rintro ⟨hi, hne, rfl⟩
    rcases hi with ⟨q1, q2⟩ | ⟨v, hv⟩
    · rw [q2] at hne
      exact absurd (c.root_is h2 q1) hne
    · have := h2.ok.st _ _ hv
      rw [c.nx a (h2.li a (.inr ⟨v, hv⟩))] at this
      rw [hv, Option.some.inj this.1]
/-- Of members one of whom isn't there, nothing. -/
theorem Conv.dead (c : Conv nx L s r) (hno : ∀ n, ¬ L n → nx n = none) : ∀ (ms : List Int) (t : Tr), TrL nx L t → Clo t → (∃ m ∈ ms, ¬ L m) → (ofT nx t ms).1 = 6
  | [], t, _, _, ⟨m, hm, _⟩ => by cases hm
  | m :: ms, t, ht, hc, ⟨x, hx, hxl⟩ => by
    rw [ofT_cons]
    by_cases hm : L m
    · obtain ⟨k, hk, hr⟩ := c.en m hm
      obtain ⟨t1, w1, l1, c1, _, _⟩ := c.walk k 66 t m hm hr (by omega) ht (fun a v hv => .inl (hc a v hv))
      rw [w1, if_pos rfl]
      refine c.dead hno ms t1 l1 c1 ⟨x, ?_, hxl⟩
      rcases List.mem_cons.1 hx with rfl | h
      · exact absurd hm hxl
      · exact h
    · have hh : t.has m = false := by
        cases q : t.has m with
        | false => rfl
        | true => exact absurd (ht.li _ (has_inT.1 q)) hm
      have : walkT nx 66 t m = (6, t) := by simp [walkT, hh, hno m hm]
      rw [this]; simp
theorem Conv.tree_dead (c : Conv nx L s r) (hno : ∀ n, ¬ L n → nx n = none) (ms : List Int) (h : ∃ m ∈ ms, ¬ L m) : (treeOf nx ms).1 = 6 := by
  obtain ⟨z1, z2⟩ := Conv.zero nx L
  have := c.dead hno ms tr0 z1 z2 h
  unfold treeOf
  rw [if_pos (by rw [this]; decide)]
  exact this
/-- So many steps up to the root. -/
theorem TrIs.rch (c : Conv nx L s r) {ms : List Int} {t : Tr} (h : TrIs nx s r ms t) (hne : ms ≠ []) : ∀ (k : Nat) (a : Int), t.inT a → (t.rch k a ↔ itr s k a = r ∧ ∀ j, j < k → itr s j a ≠ r)
  | 0, a, _ => by
    show a = t.root ↔ _
    rw [h.root, if_neg hne]
    exact ⟨fun e => ⟨e, fun j hj => absurd hj (Nat.not_lt_zero _)⟩, fun e => e.1⟩
  | k + 1, a, ha => by
    have hin : t.inT (s a) := by
      obtain ⟨m, hm, j, e⟩ := (h.nodes a).1 ha
      exact (h.nodes _).2 ⟨m, hm, j + 1, by rw [itr_out, e]⟩
    have ih := h.rch c hne k (s a) hin
    constructor
    · rintro ⟨h1, v, hv, h2⟩
      obtain ⟨_, h4, rfl⟩ := (h.up _ _).1 hv
      obtain ⟨i1, i2⟩ := ih.1 h2
      refine ⟨i1, fun j hj => ?_⟩
      cases j with
      | zero => exact h4
      | succ j => exact i2 j (by omega)
    · rintro ⟨h1, h2⟩
      have h3 : a ≠ r := h2 0 (by omega)
      refine ⟨by rw [h.root, if_neg hne]; exact h3, s a, (h.up _ _).2 ⟨ha, h3, rfl⟩, ih.2 ⟨h1, fun j hj => h2 (j + 1) (by omega)⟩⟩
/-- Trees that both have a node have it as deep. -/
theorem TrIs.depth_same (c : Conv nx L s r) {ms ns : List Int} {t u : Tr} (h : TrIs nx s r ms t) (h' : TrIs nx s r ns u) {a : Int} (ha : t.inT a) (hb : u.inT a) : t.depth a = u.depth a := by
  have n1 : ms ≠ [] := fun e => by obtain ⟨m, hm, _⟩ := (h.nodes a).1 ha; rw [e] at hm; cases hm
  have n2 : ns ≠ [] := fun e => by obtain ⟨m, hm, _⟩ := (h'.nodes a).1 hb; rw [e] at hm; cases hm
  have r1 : t.root ≠ -1 := by rw [h.root, if_neg n1]; exact c.rt.2.2
  have r2 : u.root ≠ -1 := by rw [h'.root, if_neg n2]; exact c.rt.2.2
  have e : ∀ k, t.rch k a ↔ u.rch k a := fun k => (h.rch c n1 k a ha).trans (h'.rch c n2 k a hb).symm
  by_cases q : ∃ k, t.rch k a
  · obtain ⟨k, hk⟩ := q
    rw [depth_yes r1 hk, depth_yes r2 ((e k).1 hk)]
  · have q2 : ∀ k, ¬ u.rch k a := fun k hk => q ⟨k, (e k).2 hk⟩
    unfold Tr.depth
    rw [if_neg r1, if_neg r2, dep_no _ _ _ (fun k hk => q ⟨k, hk⟩), dep_no _ _ _ q2]
end
end Go.Proofs.YtkkkldglceiiiaaGreat

/- Round the circle and back. No program in sight. -/
namespace Go.Proofs.YtkkkldglceiiiaaGreat
set_option linter.unusedVariables false
theorem Cir.inj {R : Rg} {C : List Int} (h : Cir R C) {i j : Nat} (hi : i < C.length) (hj : j < C.length) (e : C.getD i 0 = C.getD j 0) : i = j := by
  rcases Nat.lt_trichotomy i j with q | q | q
  · have := Cir.lt h q hj; rw [e] at this; omega
  · exact q
  · have := Cir.lt h q hi; rw [e] at this; omega
theorem circ_fwd {n i0 i : Nat} (hn : 0 < n) : ((i0 + i) % n + 1) % n = (i0 + (i + 1)) % n := by rw [Nat.mod_add_mod]; congr 1
theorem circ_bck {n i0 i : Nat} (hi : i < n) : ((i0 + n - i) % n + n - 1) % n = (i0 + n - (i + 1)) % n := by
  have e : (i0 + n - i) % n + n - 1 = (i0 + n - i) % n + (n - 1) := by omega
  rw [e, Nat.mod_add_mod]
  have e2 : i0 + n - i + (n - 1) = i0 + n - (i + 1) + n := by omega
  rw [e2, Nat.add_mod_right]
theorem circ_ne {n i0 i : Nat} (h0 : i0 < n) (hi : 0 < i) (hn : i < n) : (i0 + i) % n ≠ i0 ∧ (i0 + n - i) % n ≠ i0 := by
  refine ⟨fun e => ?_, fun e => ?_⟩
  · by_cases q : i0 + i < n
    · rw [Nat.mod_eq_of_lt q] at e; omega
    · rw [Nat.mod_eq_sub_mod (by omega), Nat.mod_eq_of_lt (by omega)] at e; omega
  · by_cases q : i0 + n - i < n
    · rw [Nat.mod_eq_of_lt q] at e; omega
    · rw [Nat.mod_eq_sub_mod (by omega), Nat.mod_eq_of_lt (by omega)] at e; omega
end Go.Proofs.YtkkkldglceiiiaaGreat

/- Rising lists of numbers, each once; no program in sight. -/
namespace Go.Proofs.YtkkkldglceiiiaaGreat
open Go.ChangeShapes Go.WideShapes Go.ChangeAt Go.RowKit
set_option linter.unusedVariables false

theorem nodup_len : ∀ (t l : List Int), t.Pairwise (· < ·) → (∀ x, x ∈ t → x ∈ l) → t.length ≤ l.length
  | [], l, _, _ => Nat.zero_le _
  | a :: t, l, hp, hs => by
    have ha : a ∈ l := hs a (by simp)
    have q := nodup_len t (l.erase a) (List.pairwise_cons.1 hp).2 (fun x hx => by
      have hlt := (List.pairwise_cons.1 hp).1 x hx
      exact (List.mem_erase_of_ne (by omega)).2 (hs x (by simp [hx])))
    rw [List.length_erase_of_mem ha] at q
    have : 0 < l.length := List.length_pos_of_mem ha
    simp; omega

theorem rising_same : ∀ (s t : List Int), s.Pairwise (· < ·) → t.Pairwise (· < ·) → (∀ x, x ∈ s ↔ x ∈ t) → s = t
  | [], [], _, _, _ => rfl
  | [], b :: t, _, _, h => by have := (h b).2 (by simp); simp at this
  | a :: s, [], _, _, h => by have := (h a).1 (by simp); simp at this
  | a :: s, b :: t, hs, ht, h => by
    have hs1 := List.pairwise_cons.1 hs
    have ht1 := List.pairwise_cons.1 ht
    have hab : a = b := by
      have h1 := (h a).1 (by simp)
      have h2 := (h b).2 (by simp)
      rcases List.mem_cons.1 h1 with e | m
      · exact e
      · rcases List.mem_cons.1 h2 with e | m2
        · exact e.symm
        · have := ht1.1 a m; have := hs1.1 b m2; omega
    subst hab
    congr 1
    refine rising_same s t hs1.2 ht1.2 (fun x => ?_)
    have hx := h x
    simp only [List.mem_cons] at hx
    constructor
    · intro m
      have := hs1.1 x m
      rcases hx.1 (.inr m) with e | m2
      · omega
      · exact m2
    · intro m
      have := ht1.1 x m
      rcases hx.2 (.inr m) with e | m2
      · omega
      · exact m2

theorem mem_getDr {l : List Int} {x : Int} (h : x ∈ l) : ∃ i, i < l.length ∧ l.getD i 0 = x := by
  obtain ⟨i, hi, rfl⟩ := List.mem_iff_getElem.1 h
  exact ⟨i, hi, by rw [List.getD_eq_getElem?_getD, List.getElem?_eq_getElem hi]; rfl⟩

def InU (l : List Int) : Prop := ∀ y, y ∈ l → 0 ≤ y ∧ y ≤ 18446744073709551615
theorem inU_getD {l : List Int} (h : InU l) (j : Nat) : 0 ≤ l.getD j 0 ∧ l.getD j 0 ≤ 18446744073709551615 := by
  by_cases q : j < l.length
  · rw [List.getD_eq_getElem?_getD, List.getElem?_eq_getElem q]; exact h _ (List.getElem_mem _)
  · rw [List.getD_eq_getElem?_getD, List.getElem?_eq_none (by omega)]; simp

theorem below_drewN (B : Nat) (w : World) (n : Nat) : Below B w (w.drewN n) := ⟨rfl, rfl, rfl, Nat.le_refl _, fun _ _ => rfl⟩

theorem rising_getD {l : List Int} (hp : l.Pairwise (· < ·)) (i j : Nat) (hij : i < j) (hj : j < l.length) : l.getD i 0 < l.getD j 0 := by
  have q := List.pairwise_iff_getElem.1 hp i j (by omega) hj hij
  rw [List.getD_eq_getElem?_getD, List.getElem?_eq_getElem (by omega), List.getD_eq_getElem?_getD, List.getElem?_eq_getElem hj]
  exact q
theorem owner_mem {S : List Int} {x : Int} (hp : S.Pairwise (· < ·)) (hx : x ∈ S) : ∃ o : Nat, ownerN S x = o ∧ o < S.length ∧ S.getD o 0 = x := by
  obtain ⟨o, ho, rfl⟩ := mem_getDr hx
  exact ⟨o, owner_hit S _ o ho (fun j hj => rising_getD hp j o hj ho) (Int.le_refl _), ho, rfl⟩
theorem owner_rng (S : List Int) (x : Int) (h : 0 < S.length) : ∃ o : Nat, ownerN S x = o ∧ o < S.length := by
  cases S with
  | nil => simp at h
  | cons a S =>
    refine ⟨((a :: S).findIdx? fun y => decide (x ≤ y)).getD 0, rfl, ?_⟩
    cases hf : (a :: S).findIdx? fun y => decide (x ≤ y) with
    | none => exact h
    | some i => exact (List.findIdx?_eq_some_iff_getElem.1 hf).1
end Go.Proofs.YtkkkldglceiiiaaGreat

/- Whose a place is: the circle's owners. No program in sight. -/
namespace Go.Proofs.YtkkkldglceiiiaaGreat
set_option linter.unusedVariables false
theorem first_ge (P : List Int) (x : Int) (m : Nat) : (∀ j, j < m → P.getD j 0 < x) ∨ ∃ k, k < m ∧ (∀ j, j < k → P.getD j 0 < x) ∧ x ≤ P.getD k 0 := by
  induction m with
  | zero => exact .inl (fun j hj => absurd hj (Nat.not_lt_zero _))
  | succ m ih =>
    rcases ih with h | ⟨k, h1, h2, h3⟩
    · by_cases q : P.getD m 0 < x
      · refine .inl (fun j hj => ?_)
        by_cases e : j = m
        · rw [e]; exact q
        · exact h j (by omega)
      · exact .inr ⟨m, Nat.lt_succ_self _, h, by omega⟩
    · exact .inr ⟨k, by omega, h2, h3⟩
theorem owner_spec (P : List Int) (x : Int) (h0 : 0 < P.length) : (ownerN P x = 0 ∧ ∀ j, j < P.length → P.getD j 0 < x) ∨ ∃ k : Nat, k < P.length ∧ ownerN P x = k ∧ (∀ j, j < k → P.getD j 0 < x) ∧ x ≤ P.getD k 0 := by
  rcases first_ge P x P.length with h | ⟨k, h1, h2, h3⟩
  · exact .inl ⟨owner_miss P x h0 h, h⟩
  · exact .inr ⟨k, h1, owner_hit P x k h1 h2 h3, h2, h3⟩
theorem owner_at {P : List Int} (hp : P.Pairwise (· < ·)) {i : Nat} (hi : i < P.length) : ownerN P (P.getD i 0) = i :=
  owner_hit P _ i hi (fun j hj => rising_getD hp j i hj hi) (Int.le_refl _)
theorem owner_next {P : List Int} (hp : P.Pairwise (· < ·)) (hu : ∀ k : Nat, Plc (P.getD k 0)) {i : Nat} (hi : i < P.length) : ownerN P ((P.getD i 0 + 1) % 18446744073709551616) = ((i + 1) % P.length : Nat) := by
  have hui := hu i
  unfold Plc at hui
  by_cases q : i + 1 < P.length
  · have hr := rising_getD hp i (i + 1) (by omega) q
    have hu1 := hu (i + 1)
    unfold Plc at hu1
    rw [Nat.mod_eq_of_lt q, Int.emod_eq_of_lt (by omega) (by omega)]
    refine owner_hit P _ (i + 1) q (fun j hj => ?_) (by omega)
    by_cases e : j = i
    · rw [e]; omega
    · have := rising_getD hp j i (by omega) hi; omega
  · have e : i + 1 = P.length := by omega
    rw [e, Nat.mod_self]
    by_cases w : P.getD i 0 = 18446744073709551615
    · rw [w]
      have h0 := hu 0
      unfold Plc at h0
      exact owner_hit P _ 0 (by omega) (fun j hj => absurd hj (Nat.not_lt_zero _)) (by simpa using h0.1)
    · rw [Int.emod_eq_of_lt (by omega) (by omega)]
      refine owner_miss P _ (by omega) (fun j hj => ?_)
      by_cases e : j = i
      · rw [e]; omega
      · have := rising_getD hp j i (by omega) hi; omega
theorem owner_iff {P : List Int} (hp : P.Pairwise (· < ·)) (hu : ∀ k : Nat, Plc (P.getD k 0)) (h2 : 2 ≤ P.length) {i : Nat} (hi : i < P.length) {x : Int} (hx : Plc x) :
    ownerN P x = i ↔ (x - P.getD ((i + P.length - 1) % P.length) 0 - 1) % 18446744073709551616 < (P.getD i 0 - P.getD ((i + P.length - 1) % P.length) 0) % 18446744073709551616 := by
  have hui := hu i
  have huq := hu ((i + P.length - 1) % P.length)
  unfold Plc at hui huq hx
  have hsp := owner_spec P x (by omega)
  by_cases q : i = 0
  · subst q
    have e : (0 + P.length - 1) % P.length = P.length - 1 := by rw [Nat.zero_add]; exact Nat.mod_eq_of_lt (by omega)
    rw [e] at huq ⊢
    have hr := rising_getD hp 0 (P.length - 1) (by omega) (by omega)
    rcases hsp with ⟨h1, h3⟩ | ⟨k, h1, h3, h4, h5⟩
    · have := h3 (P.length - 1) (by omega)
      rw [h1]
      constructor
      · intro _; omega
      · intro _; rfl
    · rw [h3]
      have hl : P.getD k 0 ≤ P.getD (P.length - 1) 0 := by
        by_cases e : k = P.length - 1
        · rw [e]; exact Int.le_refl _
        · exact Int.le_of_lt (rising_getD hp k (P.length - 1) (by omega) (by omega))
      by_cases k0 : k = 0
      · subst k0
        constructor
        · intro _; omega
        · intro _; rfl
      · have := h4 0 (by omega)
        constructor
        · intro h; omega
        · intro h; omega
  · have e : (i + P.length - 1) % P.length = i - 1 := by
      have : i + P.length - 1 = (i - 1) + P.length := by omega
      rw [this, Nat.add_mod_right]; exact Nat.mod_eq_of_lt (by omega)
    rw [e] at huq ⊢
    have hr := rising_getD hp (i - 1) i (by omega) hi
    rcases hsp with ⟨h1, h3⟩ | ⟨k, h1, h3, h4, h5⟩
    · have := h3 i hi
      rw [h1]
      constructor
      · intro h; omega
      · intro h; omega
    · rw [h3]
      constructor
      · intro h
        have : k = i := by omega
        subst this
        have := h4 (k - 1) (by omega)
        omega
      · intro h
        by_cases c1 : k < i
        · have hk : P.getD k 0 ≤ P.getD (i - 1) 0 := by
            by_cases e : k = i - 1
            · rw [e]; exact Int.le_refl _
            · exact Int.le_of_lt (rising_getD hp k (i - 1) (by omega) (by omega))
          omega
        · by_cases c2 : i < k
          · have := h4 i c2
            omega
          · have : k = i := by omega
            rw [this]
end Go.Proofs.YtkkkldglceiiiaaGreat

/- Ways: whom one asks next, and how near one comes. No program in sight. -/
namespace Go.Proofs.YtkkkldglceiiiaaGreat
set_option linter.unusedVariables false

/-- Does a member think that a place is its own? -/
def Rg.owns (R : Rg) (n x : Int) : Bool := (R.know n).pred != -1 && (R.lives (R.know n).pred && inB x (R.idOf (R.know n).pred) (R.know n).id)
def Rg.closer (R : Rg) (frm x best q : Int) : Bool := R.lives q && (withinB (R.idOf q) (R.idOf best) frm && withinB (R.idOf q) (R.idOf best) x)
def Rg.nearst (R : Rg) (frm x : Int) : Int → List Int → Int
  | best, [] => best
  | best, q :: l => R.nearst frm x (if R.closer frm x best q then q else best) l
/-- Who is asked next. -/
def Rg.nextTo (R : Rg) (G : Int → List Int) (x n : Int) : Int :=
  if x == (R.know n).id || R.owns n x then n
  else if inB x (R.know n).id (R.idOf (R.head n)) then R.head n
  else R.nearst (R.know n).id x (R.nearst (R.know n).id x (R.head n) (R.know n).succ) (G n)
def Rg.hopTo (R : Rg) (G : Int → List Int) (x n : Int) : Nat → Int
  | 0 => n
  | k + 1 => R.nextTo G x (R.hopTo G x n k)
/-- The way ends behind k steps. -/
def Rg.stops (R : Rg) (G : Int → List Int) (x n : Int) (k : Nat) : Prop := (∀ j, j < k → R.hopTo G x n (j + 1) ≠ R.hopTo G x n j) ∧ R.hopTo G x n (k + 1) = R.hopTo G x n k
def Rg.way (R : Rg) (G : Int → List Int) (x n : Int) (k : Nat) : List Int := (List.range k).map (R.hopTo G x n)
theorem way_succ (R : Rg) (G : Int → List Int) (x n : Int) (k : Nat) : R.way G x n (k + 1) = R.way G x n k ++ [R.hopTo G x n k] := by simp [Rg.way, List.range_succ]
theorem way_getD (R : Rg) (G : Int → List Int) (x n : Int) {k i : Nat} (hi : i < k) : (R.way G x n k).getD i 0 = R.hopTo G x n i := by simp [Rg.way, List.getD, hi]
theorem way_len (R : Rg) (G : Int → List Int) (x n : Int) (k : Nat) : (R.way G x n k).length = k := by simp [Rg.way]
theorem near_drop (R : Rg) (frm x b : Int) (l : List Int) (k : Nat) (hk : k < l.length) : R.nearst frm x b (l.drop k) = R.nearst frm x (if R.closer frm x b (l.getD k 0) then l.getD k 0 else b) (l.drop (k + 1)) := by
  rw [List.drop_eq_getElem_cons hk]
  have e : l.getD k 0 = l[k] := by simp [List.getD, hk]
  rw [e]; rfl
theorem hop_add (R : Rg) (G : Int → List Int) (x n : Int) (i k : Nat) : R.hopTo G x (R.hopTo G x n i) k = R.hopTo G x n (i + k) := by
  induction k with
  | zero => rfl
  | succ k ih => show R.nextTo G x _ = R.nextTo G x _; rw [ih]; rfl
theorem stops_uniq {R : Rg} {G : Int → List Int} {x n : Int} {k j : Nat} (h : R.stops G x n k) (h' : R.stops G x n j) : k = j := by
  rcases Nat.lt_trichotomy k j with q | q | q
  · exact absurd h.2 (h'.1 k q)
  · exact q
  · exact absurd h'.2 (h.1 j q)
theorem stops_rest {R : Rg} {G : Int → List Int} {x n : Int} {k i : Nat} (h : R.stops G x n k) (hi : i ≤ k) : R.stops G x (R.hopTo G x n i) (k - i) := by
  refine ⟨fun j hj => ?_, ?_⟩
  · rw [hop_add, hop_add]; exact h.1 (i + j) (by omega)
  · rw [hop_add, hop_add, show i + (k - i) = k by omega, show i + (k - i + 1) = k + 1 by omega]; exact h.2
section
variable {R : Rg} (h : Inv R) {G : Int → List Int} {x : Int} (hx : Plc x)
include h hx
theorem near_inv {frm : Int} (hf : Plc frm) : ∀ (l : List Int) (b : Int), R.lives b = true → dist (R.idOf b) x ≠ 0 → dist (R.idOf b) frm ≠ 0 →
    R.lives (R.nearst frm x b l) = true ∧ dist (R.idOf (R.nearst frm x b l)) x ≤ dist (R.idOf b) x ∧ dist (R.idOf (R.nearst frm x b l)) x ≠ 0 ∧ dist (R.idOf (R.nearst frm x b l)) frm ≠ 0 := by
  intro l
  induction l with
  | nil => intro b h1 h2 h3; exact ⟨h1, Int.le_refl _, h2, h3⟩
  | cons q l ih =>
    intro b h1 h2 h3
    unfold Rg.nearst
    cases hc : R.closer frm x b q
    · exact ih b h1 h2 h3
    · unfold Rg.closer at hc
      simp only [Bool.and_eq_true] at hc
      obtain ⟨c1, c2, c3⟩ := hc
      have hb := h.u b
      have hq := h.u q
      have w2 := (within_iff hq hb hf).1 c2
      have w3 := (within_iff hq hb hx).1 c3
      have d3 : dist (R.idOf b) (R.idOf q) < dist (R.idOf b) x := w3.2.resolve_left h2
      have d2 : dist (R.idOf b) (R.idOf q) < dist (R.idOf b) frm := w2.2.resolve_left h3
      have t1 : dist (R.idOf q) x < dist (R.idOf b) x := by unfold Plc at *; unfold dist at *; omega
      have t2 : dist (R.idOf q) x ≠ 0 := by unfold Plc at *; unfold dist at *; omega
      have t3 : dist (R.idOf q) frm ≠ 0 := by unfold Plc at *; unfold dist at *; omega
      have := ih q c1 t2 t3
      exact ⟨this.1, by have := this.2.1; simp only [if_true]; omega, this.2.2⟩
/-- Who is asked next lives; it is oneself just where the place is one's own; else it lies nearer, but it be the head. -/
theorem next_spec {n : Int} (hn : R.lives n = true) : R.lives (R.nextTo G x n) = true ∧ (R.nextTo G x n = n ↔ (x = R.idOf n ∨ R.owns n x = true)) ∧
    (R.nextTo G x n ≠ n → (R.nextTo G x n = R.head n ∧ inB x (R.idOf n) (R.idOf (R.head n)) = true) ∨ dist (R.idOf (R.nextTo G x n)) x < dist (R.idOf n) x) := by
  have hid := h.id n hn
  have hh := h.head hn
  have hne : R.head n ≠ n := h.apart hh.2
  have un := h.u n
  have uh := h.u (R.head n)
  have hnh : R.idOf n ≠ R.idOf (R.head n) := fun e => hne (h.inj _ _ hh.1 hn e.symm)
  unfold Rg.nextTo
  rw [hid]
  by_cases c1 : x = R.idOf n ∨ R.owns n x = true
  · have e : (x == R.idOf n || R.owns n x) = true := by
      rcases c1 with q | q
      · simp [q]
      · simp [q]
    rw [e]
    simp only [if_true]
    exact ⟨hn, ⟨fun _ => c1, fun _ => trivial⟩, fun q => absurd rfl q⟩
  · have e : (x == R.idOf n || R.owns n x) = false := by
      have q1 : ¬ x = R.idOf n := fun q => c1 (.inl q)
      have q2 : ¬ R.owns n x = true := fun q => c1 (.inr q)
      simp [q1, q2]
    have q1 : x ≠ R.idOf n := fun q => c1 (.inl q)
    rw [e]
    simp only [Bool.false_eq_true, if_false]
    cases c2 : inB x (R.idOf n) (R.idOf (R.head n))
    · simp only [Bool.false_eq_true, if_false]
      rw [in_of x _ _ q1 hnh] at c2
      have d : dist (R.idOf n) (R.idOf (R.head n)) < dist (R.idOf n) x := by simpa using c2
      have d1 : dist (R.idOf (R.head n)) x < dist (R.idOf n) x := by unfold Plc at *; unfold dist at *; omega
      have d2 : dist (R.idOf (R.head n)) x ≠ 0 := by unfold Plc at *; unfold dist at *; omega
      have d3 : dist (R.idOf (R.head n)) (R.idOf n) ≠ 0 := by unfold Plc at *; unfold dist at *; omega
      have s1 := near_inv h hx un (R.know n).succ (R.head n) hh.1 d2 d3
      have s2 := near_inv h hx un (G n) _ s1.1 s1.2.2.1 s1.2.2.2
      generalize R.nearst (R.idOf n) x (R.nearst (R.idOf n) x (R.head n) (R.know n).succ) (G n) = m at *
      have hm : m ≠ n := fun q => s2.2.2.2 (by rw [q]; exact dist_self _)
      exact ⟨s2.1, ⟨fun q => absurd q hm, fun q => absurd q c1⟩, fun _ => .inr (by have := s1.2.1; have := s2.2.1; omega)⟩
    · simp only [if_true]
      exact ⟨hh.1, ⟨fun q => absurd q hne, fun q => absurd q c1⟩, fun _ => .inl ⟨trivial, trivial⟩⟩
theorem hop_lives {n : Int} (hn : R.lives n = true) (k : Nat) : R.lives (R.hopTo G x n k) = true := by
  induction k with
  | zero => exact hn
  | succ k ih => exact (next_spec h hx ih).1
section
variable (hd : Hds R)
include hd
/-- Where heads and Preds are right each step but the last comes nearer. -/
theorem step_near {n : Int} (hn : R.lives n = true) (h1 : R.nextTo G x n ≠ n) (h2 : R.nextTo G x (R.nextTo G x n) ≠ R.nextTo G x n) : dist (R.idOf (R.nextTo G x n)) x < dist (R.idOf n) x := by
  have s := next_spec (G := G) h hx hn
  rcases s.2.2 h1 with ⟨e, hi⟩ | q
  · obtain ⟨t, ha⟩ := h.adj_exists hn
    obtain ⟨g1, g2⟩ := hd n t ha
    have hlt : R.lives (R.head n) = true := by rw [g1]; exact ha.2.1
    exfalso
    apply h2
    rw [e]
    refine ((next_spec h hx hlt).2.1).2 (.inr ?_)
    unfold Rg.owns
    rw [g1, g2, h.id t ha.2.1]
    have := h.rng n hn
    have e1 : (n != -1) = true := by simp; omega
    rw [g1] at hi
    rw [e1, hn, hi]; rfl
  · exact q
theorem hop_near {n : Int} (hn : R.lives n = true) {k : Nat} (hk : ∀ j, j < k → R.hopTo G x n (j + 1) ≠ R.hopTo G x n j) {i : Nat} (hi : i + 1 < k) : dist (R.idOf (R.hopTo G x n (i + 1))) x < dist (R.idOf (R.hopTo G x n i)) x :=
  step_near h hx hd (hop_lives h hx hn i) (hk i (by omega)) (hk (i + 1) hi)
theorem hop_dec {n : Int} (hn : R.lives n = true) {k : Nat} (hk : ∀ j, j < k → R.hopTo G x n (j + 1) ≠ R.hopTo G x n j) (i : Nat) : ∀ d, i + d + 1 < k → dist (R.idOf (R.hopTo G x n (i + d + 1))) x < dist (R.idOf (R.hopTo G x n i)) x := by
  intro d
  induction d with
  | zero => intro hq; exact hop_near h hx hd hn hk hq
  | succ d ih =>
    intro hq
    have a1 := ih (by omega)
    have a2 := hop_near h hx hd hn hk (i := i + d + 1) (by omega)
    rw [show i + (d + 1) + 1 = i + d + 1 + 1 by omega]
    omega
theorem hop_ne {n : Int} (hn : R.lives n = true) {k : Nat} (hk : ∀ j, j < k → R.hopTo G x n (j + 1) ≠ R.hopTo G x n j) {i j : Nat} (hij : i < j) (hj : j ≤ k) : R.hopTo G x n i ≠ R.hopTo G x n j := fun e => by
  by_cases q : j < k
  · have := hop_dec h hx hd hn hk i (j - i - 1) (by omega)
    rw [show i + (j - i - 1) + 1 = j by omega, e] at this
    omega
  · obtain rfl : j = k := by omega
    have h1 : R.nextTo G x (R.hopTo G x n j) ≠ R.hopTo G x n j := by rw [← e]; exact hk i hij
    have hk' : ∀ m, m < j + 1 → R.hopTo G x n (m + 1) ≠ R.hopTo G x n m := fun m hm => by
      by_cases qm : m < j
      · exact hk m qm
      · obtain rfl : m = j := by omega
        exact h1
    have := hop_dec h hx hd hn hk' i (j - i - 1) (by omega)
    rw [show i + (j - i - 1) + 1 = j by omega, e] at this
    omega
theorem way_nodup {n : Int} (hn : R.lives n = true) {k : Nat} (hk : ∀ j, j < k → R.hopTo G x n (j + 1) ≠ R.hopTo G x n j) : (R.way G x n (k + 1)).Nodup := by
  refine List.pairwise_iff_getElem.2 (fun i j hi hj hij => ?_)
  have hj' : j ≤ k := by simp [Rg.way] at hj; omega
  simp only [Rg.way, List.getElem_map, List.getElem_range]
  exact hop_ne h hx hd hn hk hij hj'
theorem way_few {n : Int} (hn : R.lives n = true) {k : Nat} (hk : ∀ j, j < k → R.hopTo G x n (j + 1) ≠ R.hopTo G x n j) : k + 1 ≤ R.live.length := by
  have := nodup_sub (R.way G x n (k + 1)) R.live (way_nodup h hx hd hn hk) (fun y hy => by
    obtain ⟨j, _, rfl⟩ := List.mem_map.1 hy
    exact h.in_live (hop_lives h hx hn j))
  rwa [way_len] at this
/-- Each way ends. -/
theorem way_ends {n : Int} (hn : R.lives n = true) : ∃ k, k < R.live.length ∧ R.stops G x n k := by
  apply Classical.byContradiction
  intro hno
  have all : ∀ k, k ≤ R.live.length → ∀ j, j < k → R.hopTo G x n (j + 1) ≠ R.hopTo G x n j := by
    intro k
    induction k with
    | zero => intro _ j hj; exact absurd hj (Nat.not_lt_zero _)
    | succ k ih =>
      intro hk j hj e
      by_cases q : j < k
      · exact ih (by omega) j q e
      · obtain rfl : j = k := by omega
        exact hno ⟨j, by omega, ih (by omega), e⟩
  have := way_few h hx hd hn (all _ (Nat.le_refl _))
  omega
end
end
/-- Where all is as it should be a way ends at the owner. -/
theorem stop_owner {R : Rg} {C : List Int} (h : Rgt 3 R) (c : Cir R C) {G : Int → List Int} {x n : Int} (hx : Plc x) (hn : R.lives n = true) (hs : R.nextTo G x n = n) : ∃ k : Nat, k < C.length ∧ ownerN (C.map R.idOf) x = k ∧ C.getD k 0 = n := by
  have hi := h.1
  obtain ⟨k, hk, e⟩ := c.at_ hn
  have hg : ∀ j, j < C.length → (C.map R.idOf).getD j 0 = R.idOf (C.getD j 0) := fun j hj => by simp [List.getD, hj]
  have hr : (C.map R.idOf).Pairwise (· < ·) := List.pairwise_map.2 c.rise
  have hu : ∀ j : Nat, Plc ((C.map R.idOf).getD j 0) := fun j => by
    by_cases q : j < C.length
    · rw [hg j q]; exact hi.u _
    · have e : (C.map R.idOf).getD j 0 = 0 := by simp [List.getD, List.getElem?_eq_none (by simp; omega : (C.map R.idOf).length ≤ j)]
      rw [e]; unfold Plc; omega
  have h4 := c.four hi
  have hkm : k < (C.map R.idOf).length := by simpa using hk
  refine ⟨k, hk, ?_, e⟩
  rcases ((next_spec hi hx hn).2.1).1 hs with q | q
  · have := owner_at hr hkm
    rw [hg k hk, e] at this
    rw [q]; exact this
  · have hm : (k + C.length - 1) % C.length < C.length := Nat.mod_lt _ (by omega)
    have hkn := h.know_eq c hk
    rw [e] at hkn
    unfold Rg.owns at q
    simp only [Bool.and_eq_true] at q
    obtain ⟨_, _, q3⟩ := q
    rw [hkn] at q3
    simp only [idPe] at q3
    rw [e] at q3
    refine (owner_iff hr hu (by simpa using (by omega : 2 ≤ C.length)) hkm hx).2 ?_
    simp only [List.length_map]
    rw [hg _ hm, hg k hk, e]
    have hne : R.idOf (C.getD ((k + C.length - 1) % C.length) 0) ≠ R.idOf n := fun e2 => by
      have := hi.inj _ _ (c.lv hm) hn e2
      rw [← e] at this
      have := c.inj hm hk this
      by_cases z : k = 0
      · subst z
        rw [Nat.zero_add, Nat.mod_eq_of_lt (by omega)] at this; omega
      · have e3 : k + C.length - 1 = (k - 1) + C.length := by omega
        rw [e3, Nat.add_mod_right, Nat.mod_eq_of_lt (by omega)] at this; omega
    have u1 := hi.u (C.getD ((k + C.length - 1) % C.length) 0)
    have u2 := hi.u n
    generalize R.idOf (C.getD ((k + C.length - 1) % C.length) 0) = y at *
    generalize R.idOf n = z at *
    unfold inB at q3
    have hyz : (y == z) = false := by simpa using hne
    rw [hyz] at q3
    simp only [Bool.false_or, Bool.and_eq_true, decide_eq_true_eq, bne_iff_ne] at q3
    unfold dist at q3
    unfold Plc at *
    omega
end Go.Proofs.YtkkkldglceiiiaaGreat

/- Fingers in memory: the ring's pointer and a map of lists, behind a pointer. -/
namespace Go.Proofs.YtkkkldglceiiiaaGreat
open Go.ChangeShapes Go.WideShapes Go.ChangeAt Go.RowKit Go.Deep
set_option linter.unusedVariables false

/-- The list that a key has; none: an empty one. -/
def LsOk (w : World) (l : List Int) : Option Value → Prop
  | none => l = []
  | some v => ∃ a len cap, v = .slice a len cap ∧ InIn w a len l ∧ (a = none → len = 0) ∧ len ≤ cap ∧ cap ≤ 9223372036854775807
theorem LsOk.below {w w' : World} {l : List Int} {v : Option Value} (h : LsOk w l v) (hb : Below w.heap.size w w') : LsOk w' l v := by
  cases v with
  | none => exact h
  | some v => obtain ⟨a, len, cap, e, h1, h2⟩ := h; exact ⟨a, len, cap, e, h1.below (Nat.le_refl _) hb, h2⟩
theorem LsOk.kp {w w' : World} {l : List Int} {v : Option Value} {gp gk : Nat} (h : LsOk w l v) (hk : Kp w w' gp gk) {mp mk : List (Int × Value)} (h1 : MpAt w gp mp) (h2 : MpAt w gk mk) : LsOk w' l v := by
  cases v with
  | none => exact h
  | some v => obtain ⟨a, len, cap, e, q1, q2⟩ := h; exact ⟨a, len, cap, e, InRow.kp q1 hk h1 h2, q2⟩
theorem zero_ints (w : World) : (zeroValue 30).run Tryz.prog w = .ok (.slice none 0 0) w := by kernel_rfl
end Go.Proofs.YtkkkldglceiiiaaGreat

/- route.Owns, nearest, Next. -/
namespace Go.Proofs.YtkkkldglceiiiaaGreat
open Go.ChangeShapes Go.WideShapes Go.ChangeAt Go.RowKit Go.Deep
set_option linter.unusedVariables false

end Go.Proofs.YtkkkldglceiiiaaGreat

/- route.Path. -/
namespace Go.Proofs.YtkkkldglceiiiaaGreat
open Go.ChangeShapes Go.WideShapes Go.ChangeAt Go.RowKit Go.Deep
set_option linter.unusedVariables false

/-- A row of ints of one's own that grows. -/
structure Gi (w wr : World) (v : Value) (n : Nat) (l : List Int) : Prop where
  row : wr.ownsRow w.heap.size 3 1 v n (l.map cellI)
  bel : Below w.heap.size w wr
theorem Gi.nil (w : World) : Gi w w (.slice none 0 0) 0 [] := ⟨World.ownsRow_nil w _ _ _, Below.refl _ _⟩
theorem Gi.below {w wr w' : World} {v : Value} {n : Nat} {l : List Int} (h : Gi w wr v n l) (hb : Below wr.heap.size wr w') : Gi w w' v n l :=
  ⟨h.row.kept (row := none) ⟨hb.os, hb.tape, hb.output, hb.size, fun b hb1 _ => hb.block b hb1⟩ (by cases HH : Value.ownBlock _ <;> simp), h.bel.trans (hb.mono h.bel.size)⟩
theorem Gi.app {w wr w' : World} {v v' : Value} {n : Nat} {l : List Int} {y : Int} (h : Gi w wr v n l) (ha : Appended w.heap.size 3 wr w' v v' (n + 1) (l.map cellI ++ [cellI y])) : Gi w w' v' (n + 1) (l ++ [y]) := by
  have hg := ha.grown
  refine ⟨by rw [List.map_append]; exact ha.row, h.bel.trans ⟨hg.os, hg.tape, hg.output, hg.size, fun b hb => hg.block b (by have := h.bel.size; omega) (fun e => ?_)⟩⟩
  have := (World.ownsRow.lt h.row b e.symm).1
  omega
theorem Gi.in {w wr : World} {a : Option Addr} {n c : Nat} {l : List Int} (h : Gi w wr (.slice a n c) n l) (hok : ∀ x ∈ l, i64 x) (hn : n ≤ 1000) : InIn wr a n l ∧ (a = none → n = 0) ∧ n ≤ c ∧ c ≤ 9223372036854775807 ∧ ∀ x, a = some x → w.heap.size ≤ x.block := by
  refine ⟨in_of_own h.row hok (by omega), fun e => ?_, (own_caps h.row).1, (own_caps h.row).2, own_new h.row⟩
  subst e
  rcases h.row.2 with ⟨_, e⟩ | ⟨g, cap, cur, hv, _⟩
  · exact e
  · cases hv
theorem src_oneI (w : World) (y : Int) : Src Tryz.prog 1 30 (.slice (some ⟨w.heap.size, 0, none⟩) 1 1) 1 [cellI y] (w.alloc (.cells #[.int .i64 y] 3)) :=
  Src.ofSlice _ Tryz.underlying30 _ _ _ _ rfl (World.news_of_block (cs := #[.int .i64 y]) (t := 3) (fr := (0, 0)) (heap_alloc_new w _)) (by simp [cellI, Value.oneCell'])
theorem way_i64 {R : Rg} (h : Inv R) {G : Int → List Int} {x n : Int} (hx : Plc x) (hn : R.lives n = true) (k : Nat) : ∀ y ∈ R.way G x n k, i64 y := fun y hy => by
  obtain ⟨j, _, rfl⟩ := List.mem_map.1 hy
  have := h.rng _ (hop_lives (G := G) h hx hn j)
  unfold i64; omega

end Go.Proofs.YtkkkldglceiiiaaGreat

/- Ways where all is as it should be. -/
namespace Go.Proofs.YtkkkldglceiiiaaGreat
open Go.ChangeShapes Go.WideShapes Go.ChangeAt Go.RowKit Go.Deep
set_option linter.unusedVariables false

theorem next_head {R : Rg} (h : Inv R) {G : Int → List Int} {x n : Int} (hn : R.lives n = true) (h1 : ¬ (x = R.idOf n ∨ R.owns n x = true)) (h2 : inB x (R.idOf n) (R.idOf (R.head n)) = true) : R.nextTo G x n = R.head n := by
  unfold Rg.nextTo
  rw [h.id n hn]
  have e : (x == R.idOf n || R.owns n x) = false := by
    have q1 : ¬ x = R.idOf n := fun q => h1 (.inl q)
    have q2 : ¬ R.owns n x = true := fun q => h1 (.inr q)
    simp [q1, q2]
  rw [e, h2]; rfl
theorem dist_one {a b x : Int} (ha : Plc a) (hb : Plc b) (hne : a ≠ b) (hx : x = (a + 1) % 18446744073709551616) : dist a x ≤ dist a b := by
  unfold Plc at ha hb
  unfold dist
  subst hx
  omega
/-- The place behind one's own is the next one's. -/
theorem way_next {R : Rg} {C : List Int} (h : Rgt 3 R) (c : Cir R C) (G : Int → List Int) {j : Nat} (hj : j < C.length) : R.stops G ((R.idOf (C.getD j 0) + 1) % 18446744073709551616) (C.getD j 0) 1 ∧ R.hopTo G ((R.idOf (C.getD j 0) + 1) % 18446744073709551616) (C.getD j 0) 1 = C.getD ((j + 1) % C.length) 0 := by
  have hi := h.1
  have h4 := c.four hi
  have hn := c.lv hj
  have ha := c.adj hi hj
  obtain ⟨g1, g2⟩ := h.2.1 _ _ ha
  have hg : ∀ j, j < C.length → (C.map R.idOf).getD j 0 = R.idOf (C.getD j 0) := fun j hj => by simp [List.getD, hj]
  have hr : (C.map R.idOf).Pairwise (· < ·) := List.pairwise_map.2 c.rise
  have hu : ∀ j : Nat, Plc ((C.map R.idOf).getD j 0) := fun j => by
    by_cases q : j < C.length
    · rw [hg j q]; exact hi.u _
    · have e : (C.map R.idOf).getD j 0 = 0 := by simp [List.getD, List.getElem?_eq_none (by simp; omega : (C.map R.idOf).length ≤ j)]
      rw [e]; unfold Plc; omega
  obtain ⟨x, hx⟩ : ∃ x, x = (R.idOf (C.getD j 0) + 1) % 18446744073709551616 := ⟨_, rfl⟩
  have hxp : Plc x := by rw [hx]; unfold Plc; omega
  have hon := owner_next hr hu (i := j) (by simpa using hj)
  rw [hg j hj, List.length_map, ← hx] at hon
  rw [← hx]
  have hnf : ¬ (x = R.idOf (C.getD j 0) ∨ R.owns (C.getD j 0) x = true) := fun q => by
    obtain ⟨k, hk, h1, h2⟩ := stop_owner (G := G) h c hxp hn (((next_spec hi hxp hn).2.1).2 q)
    have e := c.inj hk hj h2
    rw [h1, e] at hon
    have : j = (j + 1) % C.length := by omega
    by_cases q : j + 1 < C.length
    · rw [Nat.mod_eq_of_lt q] at this; omega
    · rw [show j + 1 = C.length by omega, Nat.mod_self] at this; omega
  have un := hi.u (C.getD j 0)
  have ut := hi.u (C.getD ((j + 1) % C.length) 0)
  have hne : R.idOf (C.getD j 0) ≠ R.idOf (C.getD ((j + 1) % C.length) 0) := fun e => ha.2.2.1 (hi.inj _ _ hn ha.2.1 e)
  have hin : inB x (R.idOf (C.getD j 0)) (R.idOf (C.getD ((j + 1) % C.length) 0)) = true := by
    have q1 : x ≠ R.idOf (C.getD j 0) := fun e => hnf (.inl e)
    rw [in_of x _ _ q1 hne]
    have := dist_one un ut hne hx
    simpa using this
  have e1 : R.nextTo G x (C.getD j 0) = C.getD ((j + 1) % C.length) 0 := by
    rw [next_head hi hn hnf (by rw [g1]; exact hin), g1]
  have e2 : R.nextTo G x (C.getD ((j + 1) % C.length) 0) = C.getD ((j + 1) % C.length) 0 := by
    refine ((next_spec hi hxp ha.2.1).2.1).2 (.inr ?_)
    unfold Rg.owns
    rw [g2, hi.id _ ha.2.1]
    have := hi.rng _ hn
    have q : (C.getD j 0 != -1) = true := bne_iff_ne.2 (fun e => by omega)
    rw [q, hn, hin]; rfl
  have h1 : R.hopTo G x (C.getD j 0) 1 = C.getD ((j + 1) % C.length) 0 := e1
  refine ⟨⟨fun i hii => ?_, ?_⟩, h1⟩
  · obtain rfl : i = 0 := by omega
    rw [h1]
    exact fun e => ha.2.2.1 e.symm
  · show R.nextTo G x (R.hopTo G x (C.getD j 0) 1) = _
    rw [h1]; exact e2
theorem way_own {R : Rg} (hi : Inv R) (G : Int → List Int) {n : Int} (hn : R.lives n = true) : R.stops G (R.idOf n) n 0 :=
  ⟨fun j hj => absurd hj (Nat.not_lt_zero _), ((next_spec hi (hi.u n) hn).2.1).2 (.inl rfl)⟩
end Go.Proofs.YtkkkldglceiiiaaGreat

/- There is a circle; the owner of the place behind one's own. No program in sight. -/
namespace Go.Proofs.YtkkkldglceiiiaaGreat
set_option linter.unusedVariables false
theorem cir_ex {R : Rg} (h : Inv R) : ∃ C, Cir R C := by
  have hp : (R.live.mergeSort (fun a b => decide (R.idOf a ≤ R.idOf b))).Perm R.live := List.mergeSort_perm _ _
  have hs : (R.live.mergeSort (fun a b => decide (R.idOf a ≤ R.idOf b))).Pairwise (fun a b => decide (R.idOf a ≤ R.idOf b) = true) :=
    List.pairwise_mergeSort (fun a b c h1 h2 => by simp at *; omega) (fun a b => by simp; omega) _
  generalize R.live.mergeSort (fun a b => decide (R.idOf a ≤ R.idOf b)) = C at hp hs
  have hnd : C.Nodup := hp.nodup_iff.2 (live_nodup R 32)
  have hlv : ∀ x, x ∈ C ↔ R.lives x = true := fun x => by
    rw [hp.mem_iff]
    exact ⟨fun q => ((mem_live R x).1 q).2.2, fun q => h.in_live q⟩
  refine ⟨C, ?_, hlv, hp.length_eq⟩
  refine List.Pairwise.imp_of_mem (R := fun a b => decide (R.idOf a ≤ R.idOf b) = true ∧ a ≠ b) (fun ha hb q => ?_) (hs.and hnd)
  have h1 := of_decide_eq_true q.1
  rcases Int.lt_or_eq_of_le h1 with q2 | q2
  · exact q2
  · exact absurd (h.inj _ _ ((hlv _).1 ha) ((hlv _).1 hb) q2) q.2
/-- The way to the place behind one's own: to the head, and no further. -/
theorem way_head {R : Rg} (h : Rgt 3 R) (G : Int → List Int) {y : Int} (hy : R.lives y = true) : R.stops G ((R.idOf y + 1) % 18446744073709551616) y 1 ∧ R.hopTo G ((R.idOf y + 1) % 18446744073709551616) y 1 = R.head y := by
  obtain ⟨C, c⟩ := cir_ex h.1
  obtain ⟨j, hj, rfl⟩ := c.at_ hy
  have q := way_next h c G hj
  exact ⟨q.1, by rw [q.2, (h.2.1 _ _ (c.adj h.1 hj)).1]⟩
/-- The owner of the place behind one's own is the head. -/
theorem owner_head {R : Rg} {C : List Int} (h : Rgt 3 R) (c : Cir R C) {y : Int} (hy : R.lives y = true) : ∃ k : Nat, k < C.length ∧ ownerN (C.map R.idOf) ((R.idOf y + 1) % 18446744073709551616) = k ∧ C.getD k 0 = R.head y := by
  obtain ⟨j, hj, rfl⟩ := c.at_ hy
  have hi := h.1
  have hg : ∀ j, j < C.length → (C.map R.idOf).getD j 0 = R.idOf (C.getD j 0) := fun j hj => by simp [List.getD, hj]
  have hr : (C.map R.idOf).Pairwise (· < ·) := List.pairwise_map.2 c.rise
  have hu : ∀ j : Nat, Plc ((C.map R.idOf).getD j 0) := fun j => by
    by_cases q : j < C.length
    · rw [hg j q]; exact hi.u _
    · have e : (C.map R.idOf).getD j 0 = 0 := by simp [List.getD, List.getElem?_eq_none (by simp; omega : (C.map R.idOf).length ≤ j)]
      rw [e]; unfold Plc; omega
  have hon := owner_next hr hu (i := j) (by simpa using hj)
  rw [hg j hj, List.length_map] at hon
  exact ⟨(j + 1) % C.length, Nat.mod_lt _ (by omega), hon, by rw [(h.2.1 _ _ (c.adj hi hj)).1]⟩
end Go.Proofs.YtkkkldglceiiiaaGreat

/- Trees over a ring: who is next by its fingers. -/
namespace Go.Proofs.YtkkkldglceiiiaaGreat
open Go.ChangeShapes Go.WideShapes Go.ChangeAt Go.RowKit Go.Deep
set_option linter.unusedVariables false

def nxR (R : Rg) (G : Int → List Int) (x n : Int) : Option Int := if R.lives n = true then some (R.nextTo G x n) else none
theorem nxR_neg {R : Rg} (h : Inv R) (G : Int → List Int) (x : Int) : nxR R G x (-1) = none := by
  unfold nxR
  rw [if_neg (fun e => by have := h.rng _ e; omega)]
theorem itr_hop (R : Rg) (G : Int → List Int) (x : Int) : ∀ (k : Nat) (n : Int), itr (R.nextTo G x) k n = R.hopTo G x n k
  | 0, n => rfl
  | k + 1, n => by rw [itr_out, itr_hop R G x k n]; rfl
theorem conv_ring {R : Rg} (h : Rgt 3 R) {C : List Int} (c : Cir R C) (G : Int → List Int) {x : Int} (hx : Plc x) :
    ∃ r, Conv (nxR R G x) (fun n => R.lives n = true) (R.nextTo G x) r ∧ ∃ k : Nat, k < C.length ∧ ownerN (C.map R.idOf) x = k ∧ C.getD k 0 = r := by
  have hi := h.1
  have hll : R.live.length ≤ 32 := liveTo_len R 32
  have h0 := hi.base 0 (by omega) (by omega)
  obtain ⟨k0, _, hs0⟩ := way_ends (G := G) hi hx h.2.1 h0
  obtain ⟨i, hi1, hi2, hi3⟩ := stop_owner h c (G := G) hx (hop_lives hi hx h0 k0) hs0.2
  have hfix : ∀ n, R.lives n = true → R.nextTo G x n = n → n = C.getD i 0 := fun n hn hs => by
    obtain ⟨j, _, hj2, hj3⟩ := stop_owner h c (G := G) hx hn hs
    rw [hi2] at hj2
    have : i = j := by omega
    rw [this]; exact hj3.symm
  refine ⟨C.getD i 0, ⟨fun n hn => if_pos hn, fun n hn => (next_spec (G := G) hi hx hn).1, hfix, fun n hn => ?_, ?_⟩, i, hi1, hi2, rfl⟩
  · obtain ⟨k, hk, hs⟩ := way_ends (G := G) hi hx h.2.1 hn
    exact ⟨k, by omega, by rw [itr_hop]; exact hfix _ (hop_lives hi hx hn k) hs.2⟩
  · rw [hi3]
    refine ⟨hs0.2, hop_lives hi hx h0 k0, fun e => ?_⟩
    have := hi.rng _ (hop_lives (G := G) hi hx h0 k0)
    omega
theorem nxR_dead {R : Rg} {G : Int → List Int} {x n : Int} (h : ¬ R.lives n = true) : nxR R G x n = none := if_neg h
theorem four {x : Int} (h : ringA.lives x = true) : x = 0 ∨ x = 1 ∨ x = 2 ∨ x = 3 := by
  have := (ringA_lives x).1 h
  omega
theorem adjA (c s y : Int) (hy : 0 ≤ y ∧ y < 4) (h : withinB (ringA.idOf y) (ringA.idOf c) (ringA.idOf s) = true) : ¬ Adj ringA c s := fun ha => by
  have := ha.2.2.2 y ((ringA_lives y).2 hy)
  rw [h] at this; cases this
theorem adjA_ok : Adj ringA 0 1 ∧ Adj ringA 1 2 ∧ Adj ringA 2 3 ∧ Adj ringA 3 0 := by
  refine ⟨⟨by rfl, by rfl, by decide, fun y hy => ?_⟩, ⟨by rfl, by rfl, by decide, fun y hy => ?_⟩, ⟨by rfl, by rfl, by decide, fun y hy => ?_⟩, ⟨by rfl, by rfl, by decide, fun y hy => ?_⟩⟩ <;>
    rcases four hy with rfl | rfl | rfl | rfl <;> rfl
theorem hdsA : Hds ringA := fun c s ha => by
  rcases four ha.1 with rfl | rfl | rfl | rfl <;> rcases four ha.2.1 with rfl | rfl | rfl | rfl <;>
    first
    | exact ⟨by rfl, by rfl⟩
    | exact absurd rfl ha.2.2.1
    | exact absurd ha (adjA _ _ 0 (by omega) (by rfl))
    | exact absurd ha (adjA _ _ 1 (by omega) (by rfl))
    | exact absurd ha (adjA _ _ 2 (by omega) (by rfl))
    | exact absurd ha (adjA _ _ 3 (by omega) (by rfl))
theorem ringA_rgt : Rgt 3 ringA := by
  obtain ⟨a0, a1, a2, a3⟩ := adjA_ok
  refine ⟨ringA_inv, hdsA, fun c hc => ?_⟩
  rcases four hc with rfl | rfl | rfl | rfl
  · show AdjC ringA 0 [1, 2, 3]; exact ⟨a0, a1, a2, trivial⟩
  · show AdjC ringA 1 [2, 3, 0]; exact ⟨a1, a2, a3, trivial⟩
  · show AdjC ringA 2 [3, 0, 1]; exact ⟨a2, a3, a0, trivial⟩
  · show AdjC ringA 3 [0, 1, 2]; exact ⟨a3, a0, a1, trivial⟩
end Go.Proofs.YtkkkldglceiiiaaGreat

/- tree.Tree.Nodes. -/
namespace Go.Proofs.YtkkkldglceiiiaaGreat
open Go.ChangeShapes Go.WideShapes Go.ChangeAt Go.RowKit Go.Deep
open Go.ChangeMaps (setBlock)
set_option linter.unusedVariables false

/-- The loop of Nodes, behind the root. -/
structure NdPre (W W3 : World) (root : Int) (B : Nat) (l0 : List Int) (v : Value) : Prop where
  bel : Below W.heap.size W W3
  lo : W.heap.size ≤ B
  row : W3.ownsRow B 3 1 v l0.length (l0.map cellI)
  ls : l0 = if root = -1 then [] else [root]

set_option maxRecDepth 100000 in
set_option maxHeartbeats 2000000 in
theorem nodes_t (nx : Int → Option Int) (t : Tr) (g : Nat) (w : World) (h : UpAt w g t.up) (hl : t.up.length ≤ 100000) (hi : ∀ k ∈ t.up.map (·.1), i64 k) (hr : i64 t.root) (hok : TrOk nx t) :
    Calls Tryz.prog 19 #[.agg #[.int .i64 t.root, .map (some g)]] w fun e w' => ∃ v l, e = .returned v ∧ SlI w' v l ∧ l.Pairwise (· < ·) ∧ (∀ x, x ∈ l ↔ t.inT x) ∧ Below w.heap.size w w' := by
  obtain ⟨i0, hif, hz0, hz1, hz2⟩ := info_of Tryz.infoInt
  obtain ⟨root, up⟩ := t
  simp only at h hl hi hr ⊢
  have hnd : (up.map (·.1)).Nodup := hok.nd
  obtain ⟨q, hq⟩ : ∃ q, q = w.heap.size := ⟨_, rfl⟩
  obtain ⟨W, hW⟩ : ∃ W, W = w.alloc (.cells #[.int .i64 root, .map (some g)] 40) := ⟨_, rfl⟩
  have hbW : Below w.heap.size w W := by rw [hW]; exact below_one _ _
  have c0 : W.cell? ⟨q, 0, none⟩ = some (.int .i64 root) := by rw [hW, hq]; exact World.cell?_alloc_new ..
  have c1 : W.cell? ⟨q, 1, none⟩ = some (.map (some g)) := by rw [hW, hq]; simp
  have HW : Hid (Below w.heap.size w W ∧ UpAt W g up) := ⟨hbW, h.below hbW⟩
  have HI : Hid ((∀ k ∈ up.map (·.1), i64 k) ∧ (up.map (·.1)).Nodup ∧ up.length ≤ 100000 ∧ i64 root) := ⟨hi, hnd, hl, hr⟩
  clear h hl hi hnd hbW hr hok
  go_enter Tryz.func19, Tryz.ntmps19
  go_upto_region 1 with fail
  rw [← hW]
  try rw [← hq]
  clear hW hq
  go_upto_if 7 with fail
  go_cut [3] (fun v wx => ∃ (a : Option Addr) (m c : Nat), v = .slice a m c ∧ Hid (∃ l0, l0.length = m ∧ NdPre W wx root W.heap.size l0 (.slice a m c)))
  case first =>
    by_cases hx : root = -1
    · have e1 : (root != -1) = false := by simpa using hx
      have H3 : Hid (NdPre W W root W.heap.size [] (.slice none 0 0)) := ⟨Below.refl _ _, Nat.le_refl _, World.ownsRow_nil _ _ _ _, by rw [if_pos hx]⟩
      clear hx
      go_wp2
      go_meet
      exact ⟨none, 0, 0, rfl, ⟨[], rfl, H3.out⟩⟩
    · have e1 : (root != -1) = true := by simpa using hx
      have HX : Hid (root ≠ -1) := hx
      clear hx
      have HA : Hid ((W.alloc (.cells #[.int .i64 root] 3)).ownsRow W.heap.size 3 1 (.slice none 0 0) 0 ([].map cellI)) := World.ownsRow_nil _ _ _ _
      go_wp2_with (at_builtin; refine wpList_own_append _ rfl _ _ 30 30 rfl W.heap.size 3 i0 _ 8 Tryz.underlying30 hif hz0 hz1 hz2 rfl _ _ _ rfl HA.out _ 1 [cellI root] rfl (src_oneT W root) (by unfold maxLen; omega) (by omega) (by simp) ?_)
      intro v' w6 ha
      obtain ⟨a', c', rfl⟩ := ha.shape
      have H3 : Hid (NdPre W w6 root W.heap.size [root] (.slice a' (0 + 1) c')) := by
        have b1 : Below W.heap.size W (W.alloc (.cells #[.int .i64 root] 3)) := below_one _ _
        refine ⟨b1.grown ha.grown b1.size (fun k hk => by cases hk), Nat.le_refl _, ha.row, by rw [if_neg HX.out]⟩
      clear ha HA
      go_wp2
      go_meet
      exact ⟨a', 0 + 1, c', rfl, ⟨[root], rfl, H3.out⟩⟩
  case rest =>
    rename World => W3
    obtain ⟨a3, m3, c3, rfl, H3⟩ := hcut
    obtain ⟨l0, hl0, h3⟩ := H3.out
    have HP0 : Hid (NdPre W W3 root W.heap.size l0 (.slice a3 m3 c3) ∧ l0.length = m3 ∧ l0.length ≤ 1) := ⟨h3, hl0, by rw [h3.ls]; split <;> simp⟩
    replace c1 := cell_grown c1 h3.bel
    obtain ⟨o, hrun, hit⟩ := (HW.out.2.below h3.bel).start (P := Tryz.prog) Tryz.underlying38
    obtain ⟨r, hr⟩ : ∃ r, r = W3.heap.size := ⟨_, rfl⟩
    obtain ⟨W4, hW4⟩ : ∃ W4, W4 = W3.alloc o := ⟨_, rfl⟩
    rw [← hW4, ← hr] at hrun hit
    have H4 : Hid (NdSt W W4 W.heap.size g r up (fun _ => true) l0 [] l0 (.slice a3 m3 c3)) := by
      refine ⟨hit, by rw [hW4]; exact h3.bel.alloc h3.bel.size _, ⟨by rw [hr]; exact h3.bel.size, Nat.le_refl _⟩, ?_, fun x hx => ?_, List.nodup_nil, fun k hk => (by cases hk), by simp⟩
      · rw [hW4]
        refine row_at h3.row (fun z hz => Below.heap_alloc _ _ _ ((World.ownsRow.lt h3.row z hz).2))
      · have := (World.ownsRow.lt h3.row x hx).2
        omega
    clear c0 hit hr hl0 h3 H3 hW4
    go_wp2
    clear hrun c1
    go_loopg [3] up.length (fun kx v wr => ∃ (a : Option Addr) (m c : Nat), v = .slice a m c ∧ Hid (∃ D L, kx = up.length - D.length ∧ L.length = m ∧ NdSt W wr W.heap.size g r up (fun _ => true) l0 D L (.slice a m c)))
    case atStart => exact ⟨a3, m3, c3, rfl, ⟨[], l0, rfl, HP0.out.2.1, H4.out⟩⟩
    case round =>
      obtain ⟨va, vn, vc, rfl, HB⟩ := hrel
      clear H4
      obtain ⟨D, L, hkx, hLn, hd⟩ := HB.out
      have HKX : Hid (_ = up.length - D.length ∧ L.length = vn) := ⟨hkx, hLn⟩
      have HD : Hid (NdSt W wr W.heap.size g r up (fun _ => true) l0 D L (.slice va vn vc)) := hd
      clear HB hkx hLn hd
      have HLe : Hid (vn ≤ 100001) := by have := HD.out.le; have := HI.out.2.2.1; have := HKX.out.2; have := HP0.out.2.2; show vn ≤ 100001; omega
      rcases HD.out.next with ⟨hall, hrun⟩ | ⟨k, x, w5, hlk, hrun, hent, hmid⟩
      · have HAL : Hid (∀ k ∈ up.map (·.1), k ∈ D) := hall
        have HSO := sort_own W.heap.size wr va vn vc L (by have := HD.out.row; rw [HKX.out.2] at this; exact this) (by have := HLe.out; omega)
        have HS : Hid _ := HSO
        clear hall HSO
        go_wp2_with fail
        refine Calls.mono HS.out ?_
        clear HS
        rintro e w9 ⟨rfl, l', hperm, hsort, hrow, hgr⟩
        have hLl : L = l0 ++ D := by have := HD.out.ls; rw [List.filter_eq_self.2 (fun _ _ => rfl)] at this; exact this
        have hmem : ∀ x, x ∈ l' ↔ (⟨root, up⟩ : Tr).inT x := fun x => by
          rw [hperm.mem_iff, hLl, List.mem_append, HP0.out.1.ls]
          unfold Tr.inT
          simp only
          have hD : x ∈ D ↔ ∃ v, lookI up x = some v := by
            constructor
            · intro z
              obtain ⟨p, hp, rfl⟩ := List.mem_map.1 (HD.out.dm x z)
              exact ⟨p.2, lookI_mem HI.out.2.1 hp⟩
            · rintro ⟨v, z⟩
              exact HAL.out x (List.mem_map.2 ⟨_, lookI_some z, rfl⟩)
          rw [hD]
          by_cases e : root = -1
          · simp [e]
          · simp [e]
        have hi6 : ∀ x ∈ l', i64 x := fun x hx => by
          rcases (hmem x).1 hx with ⟨_, e⟩ | ⟨v, z⟩
          · rw [e]; exact HI.out.2.2.2
          · exact HI.out.1 x (List.mem_map.2 ⟨_, lookI_some z, rfl⟩)
        have hbel : Below w.heap.size w w9 := by
          have b1 := HW.out.1.trans (HD.out.bel.mono HW.out.1.size)
          refine b1.grown hgr b1.size (fun k hk => ?_)
          have := (World.ownsRow.lt hrow k hk).1
          have := HW.out.1.size
          omega
        have HF : Hid (l'.Pairwise (· ≤ ·) ∧ (∀ x, x ∈ l' ↔ (⟨root, up⟩ : Tr).inT x) ∧ Below w.heap.size w w9) := ⟨hsort, hmem, hbel⟩
        have HCP := compact_own W.heap.size w9 va vn vc l' hrow hi6 (by have := HLe.out; omega)
        have HC : Hid _ := HCP
        clear hperm hsort hrow hgr hLl hmem hi6 hbel HCP
        go_wp2_with fail
        refine Calls.mono HC.out ?_
        clear HC
        rintro e w10 ⟨m, rfl, hin, hz, hmc, hcm, hb⟩
        obtain ⟨r1, r2⟩ := compact_rise _ l' rfl HF.out.1
        have hml : m = (Lib.compact l').length := hin.1.symm
        have HG : Hid (SlI w10 (.slice va m vc) (Lib.compact l') ∧ (Lib.compact l').Pairwise (· < ·) ∧ (∀ x, x ∈ Lib.compact l' ↔ (⟨root, up⟩ : Tr).inT x) ∧ Below w.heap.size w w10) := by
          subst hml
          exact ⟨⟨va, vc, rfl, hin, hz, hmc, hcm⟩, r1, fun x => (r2 x).trans (HF.out.2.1 x), HF.out.2.2.trans (hb.mono HW.out.1.size)⟩
        clear hin hz hmc hcm hb r1 r2 hml
        go_wp2
        go_ret
        exact ⟨_, _, rfl, HG.out.1, HG.out.2.1, HG.out.2.2.1, HG.out.2.2.2⟩
      · have HM : Hid (NdMid W wr w5 W.heap.size g r up (fun _ => true) l0 D L (.slice va vn vc) k) := hmid
        clear hmid hlk
        have HA : Hid ((w5.alloc (.cells #[.int .i64 k] 3)).ownsRow W.heap.size 3 1 (.slice va vn vc) vn (L.map cellI)) := by
          have := HM.out.row
          rw [HKX.out.2] at this
          exact row_at this (fun z hz => Below.heap_alloc _ _ _ ((World.ownsRow.lt this z hz).2))
        have HSz : Hid (W.heap.size ≤ w5.heap.size) := HM.out.bel.size
        go_wp2_with (at_builtin; go_loud (refine wpList_own_append _ rfl _ _ 30 30 rfl W.heap.size 3 i0 _ 8 Tryz.underlying30 hif hz0 hz1 hz2 rfl _ _ _ rfl HA.out _ 1 [cellI k] rfl (src_oneT w5 k) ?c3 ?c4 ?c5 ?_))
        case c3 => unfold maxLen; have := HLe.out; omega
        case c4 => have := HLe.out; omega
        case c5 => have := HSz.out; simp; omega
        intro v' w6 ha
        obtain ⟨a', c', rfl⟩ := ha.shape
        have H6 : Hid (NdSt W w6 W.heap.size g r up (fun _ => true) l0 (D ++ [k]) (L ++ [k]) (.slice a' (vn + 1) c')) := by
          have := HKX.out.2
          subst this
          exact HD.out.take HM.out rfl _ ha
        clear ha HA HSz
        go_wp2
        go_roundg (up.length - (D.length + 1))
        case measure => have := HD.out.lt HM.out.mem HM.out.out; have := HKX.out.1; omega
        case rel => exact ⟨a', vn + 1, c', rfl, ⟨D ++ [k], L ++ [k], by simp, by simp [HKX.out.2], H6.out⟩⟩
end Go.Proofs.YtkkkldglceiiiaaGreat

/- Trees over the base ring: what the laws ask. -/
namespace Go.Proofs.YtkkkldglceiiiaaGreat
open Go.ChangeShapes Go.WideShapes Go.ChangeAt Go.RowKit Go.Deep
set_option linter.unusedVariables false

theorem xor_plc (a b : Int) : Plc (bits .xor .u64 a b) := by
  show Plc (IntKind.u64.wrap _)
  rw [IntKind.wrap_u64]
  unfold Plc; omega
theorem gkey_plc (s : ByteArray) : Plc (gkeyT s) := xor_plc _ _
theorem sort_rise {l : List Int} (h : l.Nodup) : ∃ L : List Int, L.Pairwise (· < ·) ∧ ∀ x, x ∈ L ↔ x ∈ l := by
  have hp : (l.mergeSort fun x y => decide (x ≤ y)).Perm l := List.mergeSort_perm l _
  refine ⟨_, ?_, fun x => hp.mem_iff⟩
  have hn : (l.mergeSort fun x y => decide (x ≤ y)).Nodup := hp.nodup_iff.2 h
  refine ((le_sorted l).and hn).imp (fun {a b} z => ?_)
  have := z.1; have := z.2
  omega
theorem TrOk.nodes_ex {nx : Int → Option Int} {t : Tr} (h : TrOk nx t) : ∃ L : List Int, L.Pairwise (· < ·) ∧ ∀ x, x ∈ L ↔ t.inT x := by
  have hk : ∀ x, x ∈ t.up.map (·.1) ↔ ∃ v, lookI t.up x = some v := fun x => by
    constructor
    · intro hx
      obtain ⟨p, hp, rfl⟩ := List.mem_map.1 hx
      exact ⟨p.2, lookI_mem h.nd hp⟩
    · rintro ⟨v, hv⟩
      exact List.mem_map.2 ⟨_, lookI_some hv, rfl⟩
  by_cases hr : t.root = -1
  · obtain ⟨L, h1, h2⟩ := sort_rise h.nd
    exact ⟨L, h1, fun x => by rw [h2, hk]; exact ⟨.inr, fun z => z.elim (fun q => absurd hr q.1) id⟩⟩
  · have hn : (t.root :: t.up.map (·.1)).Nodup := List.nodup_cons.2 ⟨fun hm => by
      obtain ⟨v, hv⟩ := (hk _).1 hm
      have h1 := h.st _ _ hv
      rw [h.rt hr] at h1
      exact h1.2 (Option.some.inj h1.1).symm, h.nd⟩
    obtain ⟨L, h1, h2⟩ := sort_rise hn
    refine ⟨L, h1, fun x => ?_⟩
    rw [h2, List.mem_cons, hk]
    exact ⟨fun z => z.elim (fun e => .inl ⟨hr, e⟩) .inr, fun z => z.elim (fun e => .inl e.2) .inr⟩
theorem TrOk.childs_ex {nx : Int → Option Int} {t : Tr} (h : TrOk nx t) (n : Int) : ∃ L : List Int, L.Pairwise (· < ·) ∧ ∀ x, x ∈ L ↔ lookI t.up x = some n := by
  have hn : ((t.up.map (·.1)).filter fun k => decide (lookI t.up k = some n)).Nodup := h.nd.filter _
  obtain ⟨L, h1, h2⟩ := sort_rise hn
  refine ⟨L, h1, fun x => ?_⟩
  rw [h2, List.mem_filter]
  constructor
  · rintro ⟨_, z⟩; simpa using z
  · intro z
    exact ⟨List.mem_map.2 ⟨_, lookI_some z, rfl⟩, by simpa using z⟩
theorem rise_eq : ∀ (s t : List Int), s.Pairwise (· < ·) → t.Pairwise (· < ·) → (∀ x, x ∈ s ↔ x ∈ t) → s = t
  | [], [], _, _, _ => rfl
  | [], b :: t, _, _, h => by have := (h b).2 (by simp); simp at this
  | a :: s, [], _, _, h => by have := (h a).1 (by simp); simp at this
  | a :: s, b :: t, hs, ht, h => by
    have hs1 := List.pairwise_cons.1 hs
    have ht1 := List.pairwise_cons.1 ht
    have hab : a = b := by
      have h1 := (h a).1 (by simp)
      have h2 := (h b).2 (by simp)
      rcases List.mem_cons.1 h1 with e | m
      · exact e
      · rcases List.mem_cons.1 h2 with e | m2
        · exact e.symm
        · have := ht1.1 a m; have := hs1.1 b m2; omega
    subst hab
    congr 1
    refine rise_eq s t hs1.2 ht1.2 (fun x => ?_)
    have hx := h x
    simp only [List.mem_cons] at hx
    constructor
    · intro m
      have := hs1.1 x m
      rcases hx.1 (.inr m) with e | m2
      · omega
      · exact m2
    · intro m
      have := ht1.1 x m
      rcases hx.2 (.inr m) with e | m2
      · omega
      · exact m2
/-- Rising lists, one within the other. -/
theorem rise_lenT {s t : List Int} (hs : s.Pairwise (· < ·)) (h : ∀ x, x ∈ s → x ∈ t) : s.length ≤ t.length :=
  nodup_le s t (hs.imp (fun {a b} z e => by omega)) h
theorem nodes_c {nx : Int → Option Int} {t : Tr} {g : Nat} {L : List Int} (hp : L.Pairwise (· < ·)) (hm : ∀ x, x ∈ L ↔ t.inT x) (w : World) (h : UpAt w g t.up) (hl : t.up.length ≤ 100000) (hi : ∀ k ∈ t.up.map (·.1), i64 k) (hr : i64 t.root) (hok : TrOk nx t) :
    Calls Tryz.prog 19 #[.agg #[.int .i64 t.root, .map (some g)]] w fun e w' => (∃ a c, e = .returned (.slice a L.length c) ∧ InIn w' a L.length L) ∧ Below w.heap.size w w' := by
  refine (nodes_t nx t g w h hl hi hr hok).mono ?_
  rintro e w' ⟨v, l, rfl, hs, h1, h2, hb⟩
  have e : l = L := rise_eq _ _ h1 hp (fun x => (h2 x).trans (hm x).symm)
  subst e
  obtain ⟨a, c, rfl, hin, _⟩ := hs.ex
  exact ⟨⟨a, c, rfl, hin⟩, hb⟩
theorem childs_c {t : Tr} {g : Nat} {n : Int} {L : List Int} (hp : L.Pairwise (· < ·)) (hm : ∀ x, x ∈ L ↔ lookI t.up x = some n) (w : World) (h : UpAt w g t.up) (hl : t.up.length ≤ 100000) (hi : ∀ k ∈ t.up.map (·.1), i64 k) :
    Calls Tryz.prog 20 #[.agg #[.int .i64 t.root, .map (some g)], .int .i64 n] w fun e w' => (∃ a c, e = .returned (.slice a L.length c) ∧ InIn w' a L.length L) ∧ Below w.heap.size w w' := by
  refine (children_t t g n w h hl hi).mono ?_
  rintro e w' ⟨v, l, rfl, hs, h1, h2, hb⟩
  have e : l = L := rise_eq _ _ h1 hp (fun x => (h2 x).trans (hm x).symm)
  subst e
  obtain ⟨a, c, rfl, hin, _⟩ := hs.ex
  exact ⟨⟨a, c, rfl, hin⟩, hb⟩
/-- How great a tree over a ring is. -/
structure TrFew (R : Rg) (t : Tr) : Prop where
  len : t.up.length ≤ 100000
  key : ∀ k ∈ t.up.map (·.1), i64 k
  rot : i64 t.root
theorem few_ring {R : Rg} (hi : Inv R) {G : Int → List Int} {x : Int} {t : Tr} (h : TrOk (nxR R G x) t) : TrFew R t := by
  have hk : ∀ k ∈ t.up.map (·.1), 0 ≤ k ∧ k < 32 := fun k hk => by
    obtain ⟨p, hp, rfl⟩ := List.mem_map.1 hk
    have h1 := (h.st _ _ (lookI_mem h.nd (k := p.1) (v := p.2) hp)).1
    unfold nxR at h1
    split at h1
    · rename_i hl; exact hi.rng _ hl
    · cases h1
  refine ⟨?_, fun k hx => by have := hk k hx; unfold i64; omega, ?_⟩
  · have := nodup_le (t.up.map (·.1)) ((List.range 32).map fun (k : Nat) => (k : Int)) h.nd (fun y hy => by
      have := hk y hy
      exact List.mem_map.2 ⟨y.toNat, by simp; omega, by omega⟩)
    simp at this
    omega
  · by_cases e : t.root = -1
    · rw [e]; unfold i64; omega
    · have h1 := h.rt e
      unfold nxR at h1
      split at h1
      · rename_i hl; have := hi.rng _ hl; unfold i64; omega
      · cases h1
end Go.Proofs.YtkkkldglceiiiaaGreat

/- Two rows of ints of one's own: one grows behind, the other in front. -/
namespace Go.Proofs.YtkkkldglceiiiaaGreat
open Go.ChangeShapes Go.WideShapes Go.ChangeAt Go.RowKit Go.Deep
set_option linter.unusedVariables false

/-- Two rows side by side. -/
structure Tw (W wr : World) (v1 v2 : Value) (l1 l2 : List Int) : Prop where
  r1 : wr.ownsRow W.heap.size 3 1 v1 l1.length (l1.map cellI)
  r2 : wr.ownsRow W.heap.size 3 1 v2 l2.length (l2.map cellI)
  ne : ∀ x, v1.ownBlock = some x → v2.ownBlock ≠ some x
  bel : Below W.heap.size W wr
theorem Tw.below {W wr w' : World} {v1 v2 : Value} {l1 l2 : List Int} (h : Tw W wr v1 v2 l1 l2) (hb : Below wr.heap.size wr w') : Tw W w' v1 v2 l1 l2 :=
  ⟨row_at h.r1 (fun z hz => hb.block _ ((World.ownsRow.lt h.r1 z hz).2)), row_at h.r2 (fun z hz => hb.block _ ((World.ownsRow.lt h.r2 z hz).2)), h.ne, h.bel.trans (hb.mono h.bel.size)⟩
theorem empty_row {W wr : World} (hb : W.heap.size ≤ wr.heap.size) : (wr.alloc (.cells #[] 3)).ownsRow W.heap.size 3 1 (.slice (some ⟨wr.heap.size, 0, none⟩) 0 0) 0 ([].map cellI) :=
  ⟨rfl, .inr ⟨wr.heap.size, 0, #[], rfl, hb, heap_alloc_new wr _, Nat.le_refl _, by unfold maxLen; omega, rfl, rfl⟩⟩
theorem Tw.start (W : World) : Tw W ((W.alloc (.cells #[] 3)).alloc (.cells #[] 3)) (.slice (some ⟨W.heap.size, 0, none⟩) 0 0) (.slice (some ⟨W.heap.size + 1, 0, none⟩) 0 0) [] [] := by
  have e := empty_row (W := W) (wr := W) (Nat.le_refl _)
  have e2 := empty_row (W := W) (wr := W.alloc (.cells #[] 3)) (by simp)
  rw [show (W.alloc (.cells #[] 3)).heap.size = W.heap.size + 1 by simp] at e2
  refine ⟨row_at e (fun z hz => Below.heap_alloc _ _ _ ((World.ownsRow.lt e z hz).2)), e2, fun x h1 h2 => ?_, (below_one _ _).trans ((below_one _ _).mono (by simp))⟩
  simp [Value.ownBlock] at h1 h2
  omega
/-- One more behind the first. -/
theorem Tw.app {W wr w6 : World} {v1 v2 v' : Value} {l1 l2 : List Int} {y : Int} (h : Tw W wr v1 v2 l1 l2) (o : Obj) (ha : Appended W.heap.size 3 (wr.alloc o) w6 v1 v' (l1.length + 1) (l1.map cellI ++ [cellI y])) : Tw W w6 v' v2 (l1 ++ [y]) l2 := by
  have h0 := h.below (below_one wr o)
  have hg := ha.grown
  refine ⟨by rw [List.map_append, List.length_append]; exact ha.row, row_at h0.r2 (fun z hz => hg.block z ((World.ownsRow.lt h0.r2 z hz).2) (fun e => h.ne z e.symm hz)), fun x hx hx2 => ?_, h0.bel.grown hg h0.bel.size (fun k hk => (World.ownsRow.lt h0.r1 k hk).1)⟩
  rcases ha.new x hx with e | e
  · exact h.ne x e hx2
  · have := (World.ownsRow.lt h0.r2 x hx2).2
    omega
/-- A new second row: one, and the elder second row behind it. -/
theorem Tw.front {W wr w6 : World} {v1 v2 v' : Value} {l1 l2 : List Int} {y : Int} (h : Tw W wr v1 v2 l1 l2) (ha : Appended W.heap.size 3 (wr.alloc (.cells #[.int .i64 y] 3)) w6 (.slice (some ⟨wr.heap.size, 0, none⟩) 1 1) v' (1 + l2.length) ([cellI y] ++ l2.map cellI)) : Tw W w6 v1 v' l1 (y :: l2) := by
  have h0 := h.below (below_one wr (.cells #[.int .i64 y] 3))
  have hg := ha.grown
  have hlt : ∀ x, v1.ownBlock = some x → x < wr.heap.size := fun x hx => (World.ownsRow.lt h.r1 x hx).2
  refine ⟨row_at h0.r1 (fun z hz => hg.block z ((World.ownsRow.lt h0.r1 z hz).2) (fun e => ?_)), ?_, fun x hx hx2 => ?_, h0.bel.grown hg h0.bel.size (fun k hk => ?_)⟩
  · have := hlt z hz
    simp [Value.ownBlock] at e
    omega
  · have := ha.row
    rw [List.map_cons, List.length_cons, Nat.add_comm l2.length 1]
    exact this
  · have := hlt x hx
    rcases ha.new x hx2 with e | e
    · simp [Value.ownBlock] at e; omega
    · simp at e; omega
  · simp [Value.ownBlock] at hk
    have := h.bel.size
    omega
theorem one_row {W wr : World} (y : Int) (hb : W.heap.size ≤ wr.heap.size) : (wr.alloc (.cells #[.int .i64 y] 3)).ownsRow W.heap.size 3 1 (.slice (some ⟨wr.heap.size, 0, none⟩) 1 1) 1 [cellI y] :=
  ⟨rfl, .inr ⟨wr.heap.size, 1, #[.int .i64 y], rfl, hb, heap_alloc_new wr _, Nat.le_refl _, by unfold maxLen; omega, rfl, rfl⟩⟩
theorem Tw.shape {W wr : World} {v1 v2 : Value} {l1 l2 : List Int} (h : Tw W wr v1 v2 l1 l2) : (∃ a c, v1 = .slice a l1.length c) ∧ ∃ a c, v2 = .slice a l2.length c := by
  refine ⟨?_, ?_⟩
  · rcases h.r1.2 with ⟨hv, h0⟩ | ⟨g, cap, cur, hv, _⟩
    · exact ⟨none, 0, by rw [hv, h0]⟩
    · exact ⟨_, _, hv⟩
  · rcases h.r2.2 with ⟨hv, h0⟩ | ⟨g, cap, cur, hv, _⟩
    · exact ⟨none, 0, by rw [hv, h0]⟩
    · exact ⟨_, _, hv⟩
end Go.Proofs.YtkkkldglceiiiaaGreat

/- The circle's owner of a place is the one at which all ways end. -/
namespace Go.Proofs.YtkkkldglceiiiaaGreat
open Go.ChangeShapes Go.WideShapes Go.ChangeAt Go.RowKit Go.Deep
set_option linter.unusedVariables false

theorem owner_is {R : Rg} (h : Rgt 3 R) (G : Int → List Int) {x ro : Int} (hx : Plc x) (hc : Conv (nxR R G x) (fun n => R.lives n = true) (R.nextTo G x) ro) (r gp gk : Nat) (w : World) (hr : RingAt w r gp gk R) :
    Calls Tryz.prog 7 #[.pointer (some ⟨r, 0, none⟩)] w fun e w' => ∃ (g : Nat) (b : Option Addr) (c d : Nat), e = .returned (.agg #[.slice (some ⟨g, 0, none⟩) R.live.length c, .slice b R.live.length d]) ∧ Below w.heap.size w w' ∧
      ∀ W', Below w'.heap.size w' W' → Calls Tryz.prog 8 #[.agg #[.slice (some ⟨g, 0, none⟩) R.live.length c, .slice b R.live.length d], .int .u64 x] W' fun e w9 => e = .returned (.int .i64 ro) ∧ Below W'.heap.size W' w9 := by
  refine (of_r r gp gk R w hr h.1).mono ?_
  rintro e w' ⟨C, g, b, c, d, he, hC, hm, _, _, hp, _, b'⟩
  obtain ⟨r2, hc2, k, hk1, hk2, hk3⟩ := conv_ring h hC G hx
  have e2 : r2 = ro := hc.fx r2 hc2.rt.2.1 hc2.rt.1
  have hcl : C.length = R.live.length := hC.len
  refine ⟨g, b, c, d, he, b', fun W' hW' => ?_⟩
  refine (cowner_r R C g c d R.live.length k b x W' (hm.below (Nat.le_refl _) hW') (hp.below (Nat.le_refl _) hW') (live_four h.1) hk2 (by omega)).mono ?_
  rintro e w9 ⟨he9, b9⟩
  exact ⟨by rw [he9, hk3, e2], b9⟩
theorem ints_same (a : Option Addr) (n c : Nat) (b : Option Addr) (m d : Nat) (l : List Int) (w : World) (hl : InIn w a n l) (hk : InIn w b m l) :
    Calls Tryz.prog 18 #[.slice a n c, .slice b m d] w fun e w' => e = .returned (.bool true) ∧ Below w.heap.size w w' :=
  (ints_any a n c l b m d l w hl hk).mono (fun e w' z => ⟨by rw [z.1]; simp [intsB], z.2⟩)
end Go.Proofs.YtkkkldglceiiiaaGreat

/- wigwaglaw20.List: a list says who is next. wigwaglaw20.awake. -/
namespace Go.Proofs.YtkkkldglceiiiaaGreat
open Go.ChangeShapes Go.WideShapes Go.ChangeAt Go.RowKit Go.Deep
open Go.ChangeMaps (setBlock)
set_option linter.unusedVariables false

/-- As the list says; of others, and where it says -1, nobody. -/
def nxL (l : List Int) (n : Int) : Option Int := if 0 ≤ n ∧ n < l.length ∧ l.getD n.toNat 0 ≠ -1 then some (l.getD n.toNat 0) else none
theorem nxL_some {l : List Int} {n v : Int} (h : nxL l n = some v) : 0 ≤ n ∧ n < l.length ∧ v ≠ -1 ∧ l.getD n.toNat 0 = v := by
  unfold nxL at h
  split at h
  · rename_i q
    have := Option.some.inj h
    exact ⟨q.1, q.2.1, by rw [← this]; exact q.2.2, this⟩
  · cases h
theorem nxL_neg (l : List Int) : nxL l (-1) = none := by unfold nxL; rw [if_neg (by omega)]

set_option maxHeartbeats 1000000 in
theorem lnext_any (a : Option Addr) (len c : Nat) (l : List Int) (n x : Int) (w : World) (hin : InIn w a len l) (hl : len ≤ 1000) :
    Calls Tryz.prog 109 #[.slice a len c, .int .i64 n, .int .u64 x] w fun e w' => e = .returned (nxV (nxL l n)) ∧ Below w.heap.size w w' := by
  have H : Hid (InIn w a len l) := hin
  have HL : Hid (l.length = len) := hin.1
  clear hin
  by_cases h0 : n < 0
  · have HN : Hid (nxL l n = none) := by show nxL l n = none; unfold nxL; rw [if_neg (by omega)]
    go_enter Tryz.func109, Tryz.ntmps109
    go_wp2
    go_ret2
    exact ⟨by rw [HN.out]; rfl, Below.refl _ _⟩
  · by_cases h1 : n < (len : Int)
    · obtain ⟨k, rfl⟩ : ∃ k : Nat, n = k := ⟨n.toNat, by omega⟩
      have hk : k < len := by omega
      obtain ⟨mb, mo, hmb, hml, _, hmc⟩ := H.out.one (v := Value.int .i64) (fun _ => rfl) (i := k) hk
      subst hmb
      obtain ⟨y, hy⟩ : ∃ y, y = l.getD k 0 := ⟨_, rfl⟩
      rw [← hy] at hmc
      have hk0 : (0 : Int) ≤ (k : Int) := by omega
      by_cases hv : y = -1
      · have e1 : (y == -1) = true := by simpa using hv
        have HN : Hid (nxL l k = none) := by show nxL l k = none; unfold nxL; rw [if_neg (fun z => z.2.2 (by rw [Int.toNat_natCast, ← hy]; exact hv))]
        clear hv hy h0
        go_enter Tryz.func109, Tryz.ntmps109
        go_wp2
        go_ret2
        exact ⟨by rw [HN.out]; rfl, Below.refl _ _⟩
      · have e1 : (y == -1) = false := by simpa using hv
        have HN : Hid (nxL l k = some y) := by
          show nxL l k = some y
          unfold nxL
          rw [if_pos ⟨by omega, by rw [HL.out]; omega, by rw [Int.toNat_natCast, ← hy]; exact hv⟩, Int.toNat_natCast, ← hy]
        clear hv hy h0
        go_enter Tryz.func109, Tryz.ntmps109
        go_wp2
        go_ret2
        exact ⟨by rw [HN.out]; rfl, Below.refl _ _⟩
    · have HN : Hid (nxL l n = none) := by show nxL l n = none; unfold nxL; rw [if_neg (by rw [HL.out]; omega)]
      go_enter Tryz.func109, Tryz.ntmps109
      go_wp2
      go_ret2
      exact ⟨by rw [HN.out]; rfl, Below.refl _ _⟩
theorem mth_list (a : Option Addr) (len c : Nat) (w : World) : (method 274 57 (.slice a len c) "Next").run Tryz.prog w = .ok (109, .slice a len c) w := by kernel_rfl
theorem ent_list (args : Array Value) (w : World) : (callFunc 109 args).run Tryz.prog w = .ok (.enter 109 args) w := by kernel_rfl
theorem wk_list (w : World) (a : Option Addr) (len c : Nat) (l : List Int) (x : Int) (hin : InIn w a len l) (hl : len ≤ 1000) : Wk w 57 (.slice a len c) 109 x (nxL l) :=
  ⟨mth_list a len c, ent_list, fun W n hW => lnext_any a len c l n x W (hin.below (Nat.le_refl _) hW) hl⟩
end Go.Proofs.YtkkkldglceiiiaaGreat

/- wigwaglaw09.Cut: a peer that knows at most eight behind it. -/
namespace Go.Proofs.YtkkkldglceiiiaaGreat
open Go.ChangeShapes Go.WideShapes Go.ChangeAt Go.RowKit Go.Deep
set_option linter.unusedVariables false

/-- The cells of a peer's block, behind an append to a row made later. -/
theorem peer_block {W w1 : World} {g : Nat} {c0 c1 c2 : Value} {row : Option Nat} (hc : W.heap[g]? = some (.cells #[c0, c1, c2] 54 (0, 0))) (hg : W.grownBy w1 row) (hr : row ≠ some g) :
    w1.cell? ⟨g, 0, none⟩ = some c0 ∧ w1.cell? ⟨g, 1, none⟩ = some c1 ∧ w1.cell? ⟨g, 2, none⟩ = some c2 ∧ (∀ o, w1.frozen? ⟨g, o, none⟩ = false) ∧ g < w1.heap.size := by
  have hlt : g < W.heap.size := by
    rcases Nat.lt_or_ge g W.heap.size with q | q
    · exact q
    · rw [Array.getElem?_eq_none q] at hc; cases hc
  have e : w1.heap[g]? = some (.cells #[c0, c1, c2] 54 (0, 0)) := (hg.block g hlt (Ne.symm hr)).trans hc
  refine ⟨?_, ?_, ?_, fun o => ?_, ?_⟩
  · simp [World.cell?, e]
  · simp [World.cell?, e]
  · simp [World.cell?, e]
  · simp [World.frozen?, e]
  · rcases Nat.lt_or_ge g w1.heap.size with q | q
    · exact q
    · rw [Array.getElem?_eq_none q] at e; cases e

end Go.Proofs.YtkkkldglceiiiaaGreat

/- Layer 9's answers that the document fixes. -/
namespace Go.Proofs.YtkkkldglceiiiaaGreat
open Go.ChangeShapes Go.WideShapes Go.ChangeAt Go.RowKit Go.Deep
set_option linter.unusedVariables false

/-- A list written out, in a block of its own. -/
theorem in_lit {α : Type} {enc : α → List Value} {ok : α → Prop} {d : α} {v : α → Value} (hv : ∀ x, enc x = [v x]) {w : World} {g : Nat} {T : TypeId} (l : List α) {arr : Array Value} (hl : l.map v = arr.toList) (hg : w.heap[g]? = some (.cells arr T (0, 0))) (hok : ∀ x ∈ l, ok x) (hm : l.length ≤ 9223372036854775807) :
    InRow 1 enc ok d w (some ⟨g, 0, none⟩) l.length l := by
  refine ⟨rfl, hm, .inr ⟨g, 0, rfl, ?_, fun i hi => ?_⟩⟩
  · rcases Nat.lt_or_ge g w.heap.size with q | q
    · exact q
    · rw [Array.getElem?_eq_none q] at hg; cases hg
  · have e0 : l.getD i d = l[i] := by simp [List.getD, hi]
    refine ⟨by rw [e0]; exact hok _ (List.getElem_mem _), fun j hj => ?_⟩
    obtain rfl : j = 0 := by omega
    have e1 : arr[i]? = some (v l[i]) := by rw [← Array.getElem?_toList, ← hl]; simp [hi]
    rw [e0, hv]
    simp [World.cell?, hg, e1]

theorem cell_far {w : World} {p a : Addr} {v : Value} (h : p.block ≠ a.block) : (w.setCell p v).cell? a = w.cell? a := by rw [World.cell?_setCell_other]; exact fun e => h (by rw [e])

theorem new_block (w : World) (o : Obj) {n : Nat} (h : n = w.heap.size) : (w.alloc o).heap[n]? = some o := by subst h; exact heap_alloc_new w o

theorem field_pred (a c : Value) (w : World) : (Instr.field 54 (.agg #[a, .int .i64 0, c]) 1).run Tryz.prog w = .ok (.int .i64 0) w := by kernel_rfl

end Go.Proofs.YtkkkldglceiiiaaGreat

/- wigwaglaw20.awake. -/
namespace Go.Proofs.YtkkkldglceiiiaaGreat
open Go.ChangeShapes Go.WideShapes Go.ChangeAt Go.RowKit Go.Deep
open Go.ChangeMaps (setBlock)
set_option linter.unusedVariables false

def trA : Tr := ⟨2, [(3, 0), (0, 1), (1, 2)]⟩
theorem treeA : treeOf (nxL [1, 2, 2, 0]) [3, 1] = (0, trA) := by rfl
theorem depA : trA.depth 3 = 3 := by rfl
theorem rising_is : ∀ (s t : List Int), s.Pairwise (· < ·) → t.Pairwise (· < ·) → (∀ x, x ∈ s ↔ x ∈ t) → s = t
  | [], [], _, _, _ => rfl
  | [], b :: t, _, _, h => by have := (h b).2 (by simp); simp at this
  | a :: s, [], _, _, h => by have := (h a).1 (by simp); simp at this
  | a :: s, b :: t, hs, ht, h => by
    have hs1 := List.pairwise_cons.1 hs
    have ht1 := List.pairwise_cons.1 ht
    have hab : a = b := by
      have h1 := (h a).1 (by simp)
      have h2 := (h b).2 (by simp)
      rcases List.mem_cons.1 h1 with e | m
      · exact e
      · rcases List.mem_cons.1 h2 with e | m2
        · exact e.symm
        · have := ht1.1 a m; have := hs1.1 b m2; omega
    subst hab
    congr 1
    refine rising_is s t hs1.2 ht1.2 (fun x => ?_)
    have hx := h x
    simp only [List.mem_cons] at hx
    constructor
    · intro m
      have := hs1.1 x m
      rcases hx.1 (.inr m) with e | m2
      · omega
      · exact m2
    · intro m
      have := ht1.1 x m
      rcases hx.2 (.inr m) with e | m2
      · omega
      · exact m2
theorem intsA1 : intsB [0, 1, 2, 3] [0, 1, 2, 3] = true := by rfl
theorem intsA2 : intsB [1] [1] = true := by rfl

set_option maxRecDepth 100000 in
set_option maxHeartbeats 4000000 in
theorem awake20_any (w : World) : Calls Tryz.prog 6 #[] w fun e w' => e = .returned (.bool true) ∧ Below w.heap.size w w' := by
  obtain ⟨W1, hW1⟩ : ∃ W, W = w.alloc (.cells #[.int .i64 1, .int .i64 2, .int .i64 2, .int .i64 0] 3) := ⟨_, rfl⟩
  obtain ⟨W2, hW2⟩ : ∃ W, W = W1.alloc (.cells #[.int .i64 3, .int .i64 1] 3) := ⟨_, rfl⟩
  have b1 : Below w.heap.size w W1 := by rw [hW1]; exact below_one _ _
  have b2 : Below W1.heap.size W1 W2 := by rw [hW2]; exact below_one _ _
  have s1 : W1.heap.size = w.heap.size + 1 := by rw [hW1]; simp
  have i1 : InIn W1 (some ⟨w.heap.size, 0, none⟩) 4 [1, 2, 2, 0] := in_lit (v := Value.int .i64) (T := 3) (arr := #[.int .i64 1, .int .i64 2, .int .i64 2, .int .i64 0]) (fun _ => rfl) [1, 2, 2, 0] rfl (by rw [hW1]; exact heap_alloc_new w _) (by simp [i64]) (by decide)
  have i2 : InIn W2 (some ⟨w.heap.size + 1, 0, none⟩) 2 [3, 1] := in_lit (v := Value.int .i64) (T := 3) (arr := #[.int .i64 3, .int .i64 1]) (fun _ => rfl) [3, 1] rfl (by rw [hW2, ← s1]; exact heap_alloc_new W1 _) (by simp [i64]) (by decide)
  have hO := tree_of W2 57 (.slice (some ⟨w.heap.size, 0, none⟩) 4 4) 109 (nxL [1, 2, 2, 0]) ⟨#[103]⟩ (some ⟨w.heap.size + 1, 0, none⟩) 2 2 [3, 1] (by decide) i2 (wk_list W2 _ _ _ _ _ (i1.below (Nat.le_refl _) b2) (by decide)) (nxL_neg _) (by decide)
  rw [treeA] at hO
  have HO : Hid _ := hO
  have HB : Hid (Below w.heap.size w W2) := b1.trans (b2.mono b1.size)
  clear b1 b2 i1 i2 hO s1
  go_enter Tryz.func6, Tryz.ntmps6
  go_wp2_with fail
  rw [← hW1, ← hW2]
  refine Calls.mono HO.out ?_
  clear HO hW1 hW2
  rintro e w3 ⟨h3, b3⟩
  rcases h3 with ⟨h0, _⟩ | ⟨_, g, rfl, hup⟩
  · exact absurd rfl h0
  simp only [trA] at hup ⊢
  have H3 : Hid (UpAt w3 g trA.up ∧ Below w.heap.size w w3) := ⟨hup, HB.out.trans (b3.mono HB.out.size)⟩
  clear hup b3 HB
  have HI : Hid ((∀ k ∈ trA.up.map (·.1), i64 k) ∧ TrOk (nxL [1, 2, 2, 0]) trA) := ⟨by simp [trA, i64], by have := tree_ok (nxL [1, 2, 2, 0]) [3, 1]; rw [treeA] at this; exact this⟩
  obtain ⟨W4, hW4⟩ : ∃ W, W = w3.alloc (.cells #[.int .i64 2, .map (some g)] 40) := ⟨_, rfl⟩
  obtain ⟨q, hq⟩ : ∃ q, q = w3.heap.size := ⟨_, rfl⟩
  have b4 : Below w3.heap.size w3 W4 := by rw [hW4]; exact below_one _ _
  have c0 : W4.cell? ⟨q, 0, none⟩ = some (.int .i64 2) := by rw [hW4, hq]; exact World.cell?_alloc_new ..
  have c1 : W4.cell? ⟨q, 1, none⟩ = some (.map (some g)) := by rw [hW4, hq]; simp
  have H4 : Hid (UpAt W4 g trA.up ∧ Below w.heap.size w W4) := ⟨H3.out.1.below b4, H3.out.2.trans (b4.mono H3.out.2.size)⟩
  clear b4 H3
  have cl := cell_block c0
  go_upto_region 2 with fail
  rw [← hW4]
  try rw [← hq]
  clear hW4 hq
  go_wp2_with fail
  refine (depth_any trA g 3 _ H4.out.1 (by decide)).mono ?_
  rintro e w5 ⟨rfl, b5⟩
  rw [depA]
  replace c0 := cell_grown c0 b5
  replace c1 := cell_grown c1 b5
  replace cl := cell_block c0
  have H5 : Hid (UpAt w5 g trA.up ∧ Below w.heap.size w w5) := ⟨H4.out.1.below b5, H4.out.2.trans (b5.mono H4.out.2.size)⟩
  clear b5 H4
  go_wp2_with fail
  refine (nodes_t (nxL [1, 2, 2, 0]) trA g _ H5.out.1 (by decide) HI.out.1 (by simp [trA, i64]) HI.out.2).mono ?_
  rintro e w6 ⟨v, l, rfl, hs, hp, hm, b6⟩
  have hl : l = [0, 1, 2, 3] := rising_is _ _ hp (by simp) (fun x => by
    rw [hm]
    unfold Tr.inT
    simp only [trA, lookI]
    constructor
    · rintro (⟨_, rfl⟩ | ⟨v, hv⟩)
      · simp
      · repeat (split at hv; (rename_i q; simp [← q]))
        cases hv
    · intro hx
      simp at hx
      rcases hx with rfl | rfl | rfl | rfl
      · exact .inr ⟨1, rfl⟩
      · exact .inr ⟨2, rfl⟩
      · exact .inl ⟨by decide, rfl⟩
      · exact .inr ⟨0, rfl⟩)
  subst hl
  obtain ⟨a6, k6, rfl, hin, _⟩ := hs.ex
  have H6 : Hid (UpAt w6 g trA.up ∧ Below w.heap.size w w6 ∧ InIn w6 a6 4 [0, 1, 2, 3]) := ⟨H5.out.1.below b6, H5.out.2.trans (b6.mono H5.out.2.size), hin⟩
  replace c0 := cell_grown c0 b6
  replace c1 := cell_grown c1 b6
  replace cl := cell_block c0
  clear b6 H5 hin hp hm hs
  go_wp2_with fail
  refine (ints_any a6 4 k6 [0, 1, 2, 3] (some ⟨w6.heap.size, 0, none⟩) 4 4 [0, 1, 2, 3] _ (H6.out.2.2.below (Nat.le_refl _) (below_one _ _)) (in_lit (v := Value.int .i64) (T := 3) (arr := #[.int .i64 0, .int .i64 1, .int .i64 2, .int .i64 3]) (fun _ => rfl) [0, 1, 2, 3] rfl (heap_alloc_new w6 _) (by simp [i64]) (by decide))).mono ?_
  rintro e w7 ⟨rfl, b7⟩
  rw [intsA1]
  have b67 : Below w6.heap.size w6 w7 := (below_one _ _).trans (b7.mono (by simp))
  have H7 : Hid (UpAt w7 g trA.up ∧ Below w.heap.size w w7) := ⟨H6.out.1.below b67, H6.out.2.1.trans (b67.mono H6.out.2.1.size)⟩
  replace c0 := cell_grown c0 b67
  replace c1 := cell_grown c1 b67
  replace cl := cell_block c0
  clear b7 b67 H6
  go_wp2_with fail
  refine (children_t trA g 2 _ H7.out.1 (by decide) HI.out.1).mono ?_
  rintro e w8 ⟨v, l, rfl, hs, hp, hm, b8⟩
  have hl : l = [1] := rising_is _ _ hp (by simp) (fun x => by
    rw [hm]
    simp only [trA, lookI]
    constructor
    · intro hv
      split at hv
      · cases hv
      · split at hv
        · cases hv
        · split at hv
          · rename_i q; simp [← q]
          · cases hv
    · intro hx
      simp at hx
      subst hx
      rfl)
  subst hl
  obtain ⟨a8, k8, rfl, hin, _⟩ := hs.ex
  have H8 : Hid (Below w.heap.size w w8 ∧ InIn w8 a8 1 [1]) := ⟨H7.out.2.trans (b8.mono H7.out.2.size), hin⟩
  clear b8 H7 hin hp hm hs
  go_wp2_with fail
  refine (ints_any a8 1 k8 [1] (some ⟨w8.heap.size, 0, none⟩) 1 1 [1] _ (H8.out.2.below (Nat.le_refl _) (below_one _ _)) (in_lit (v := Value.int .i64) (T := 3) (arr := #[.int .i64 1]) (fun _ => rfl) [1] rfl (heap_alloc_new w8 _) (by simp [i64]) (by decide))).mono ?_
  rintro e w9 ⟨rfl, b9⟩
  rw [intsA2]
  have b89 : Below w8.heap.size w8 w9 := (below_one _ _).trans (b9.mono (by simp))
  go_wp2
  go_ret
  exact ⟨rfl, H8.out.1.trans (b89.mono H8.out.1.size)⟩
end Go.Proofs.YtkkkldglceiiiaaGreat

/- errors.Is of two like codes. -/
namespace Go.Proofs.YtkkkldglceiiiaaGreat
open Go.ChangeShapes Go.WideShapes Go.ChangeAt Go.RowKit Go.Extern.Stop Go.Stop Go.Extern
set_option linter.unusedVariables false

theorem type_callL (v : Value) (w : World) : Sem.run Tryz.prog (callFunc 30 #[.iface 43 v]) w = .ok (.value (.iface 89 (.agg #[.pointer (some ⟨0, 43, none⟩)]))) w := by
  rw [@run_callFunc_extern Tryz.prog 30 _ Extern.ReflectliteType.typeOf Tryz.func30 (by kernel_rfl) (by kernel_rfl) (by kernel_rfl) (by kernel_rfl)]
  kernel_rfl
theorem comp_callL (w : World) : Sem.run Tryz.prog (callFunc 113 #[.agg #[.pointer (some ⟨0, 43, none⟩)]]) w = .ok (.value (.bool true)) w := by
  rw [@run_callFunc_extern Tryz.prog 113 _ (Extern.ReflectliteType.method fun t => do Go.Extern.Rtype.noPackHeld "Comparable" t; pure (.bool (← typeInfo t).comparable)) Tryz.func113 (by kernel_rfl) (by kernel_rfl) (by kernel_rfl) (by kernel_rfl)]
  kernel_rfl
theorem comp_methodL (v : Value) (w : World) : (Go.method 274 89 v "Comparable").run Tryz.prog w = .ok (113, v) w := by kernel_rfl
theorem code_compL : (Tryz.prog.info? 43).map (·.comparable) = some true := by kernel_rfl
/-- Two codes as errors are equal as their numbers are. -/
theorem eql_codesL (a b : Int) (w : World) : (binOp .eql 24 (.iface 43 (.int .i64 a)) (.iface 43 (.int .i64 b))).run Tryz.prog w = .ok (.bool (a == b)) w := by
  obtain ⟨i, hi, hc⟩ := Option.map_eq_some_iff.1 code_compL
  have h : ∀ d : Nat, (Op.equalIn (d + 2) 24 (.iface 43 (.int .i64 a)) (.iface 43 (.int .i64 b))).run Tryz.prog w = .ok (a == b) w := fun d => by
    simp [Op.equalIn, run_underlying Tryz.underlying24, run_underlying Tryz.underlying43, typeInfo, hi, hc]
  simp only [binOp]
  simp [Op.equal, Op.maxDepth, h 9998]

set_option maxRecDepth 100000 in
theorem is_code (c : Int) (w : World) :
    Calls Tryz.prog 11 #[.iface 43 (.int .i64 c), .iface 43 (.int .i64 c)] w fun e w' => e = .returned (.bool true) ∧ w' = w := by
  have h18 := type_callL
  have h45 := comp_callL
  have mC := comp_methodL
  have heq := eql_codesL c c w
  have hcc : (c == c) = true := by simp
  rw [hcc] at heq
  clear hcc
  go_enter Tryz.func11, Tryz.ntmps11
  go_wp2
  refine wp_loop_rounds 1 ?_
  rw [rounds_succ]
  go_wp2
  go_ret
  exact ⟨rfl, rfl⟩
end Go.Proofs.YtkkkldglceiiiaaGreat
