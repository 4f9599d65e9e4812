/- wigwagref09.Ints: are two lists the same? -/
import Derived.Test.YtmajlldfiiokoaaGreatDoorPrList
import Derived.Deep.QuietTactic
import Derived.Test.YtmajlldfiiokoaaGreatDoorChNew
set_option linter.unnecessarySimpa false
namespace Go.Proofs.YtmajlldfiiokoaaGreatDoor
open Go.ChangeShapes Go.WideShapes Go.ChangeAt Go.RowKit Go.Deep
set_option linter.unusedVariables false

theorem below_drew {B : Nat} {w w' : World} (h : Below B w w') (n : Nat) : Below B w (w'.drewN n) := ⟨h.os, h.tape, h.output, h.size, h.block⟩

def intsB (l k : List Int) : Bool := decide (l = k)
theorem ints_all {l k : List Int} (h0 : l.length = k.length) (h : ∀ j, j < l.length → l.getD j 0 = k.getD j 0) : intsB l k = true := by
  unfold intsB
  refine decide_eq_true (List.ext_getElem h0 fun i h1 h2 => ?_)
  have := h i h1
  simpa [List.getD, h1, h2] using this

end Go.Proofs.YtmajlldfiiokoaaGreatDoor

/- Layer 10's answers that the document fixes. -/
namespace Go.Proofs.YtmajlldfiiokoaaGreatDoor
open Go.ChangeShapes Go.WideShapes Go.ChangeAt Go.RowKit Go.Deep
set_option linter.unusedVariables false

def ids4 : List Int := [10, 20, 30, 40]
def ringA : Rg := newTo ids4 [0, 1, 2, 3] 4
theorem rise_same : ∀ (s t : List Int), s.Pairwise (· < ·) → t.Pairwise (· < ·) → (∀ x, x ∈ s ↔ x ∈ t) → s = t
  | [], [], _, _, _ => rfl
  | [], b :: t, _, _, h => by have := (h b).2 (by simp); simp at this
  | a :: s, [], _, _, h => by have := (h a).1 (by simp); simp at this
  | a :: s, b :: t, hs, ht, h => by
    have hs1 := List.pairwise_cons.1 hs
    have ht1 := List.pairwise_cons.1 ht
    have hab : a = b := by
      have h1 := (h a).1 (by simp)
      have h2 := (h b).2 (by simp)
      rcases List.mem_cons.1 h1 with e | m
      · exact e
      · rcases List.mem_cons.1 h2 with e | m2
        · exact e.symm
        · have := ht1.1 a m; have := hs1.1 b m2; omega
    subst hab
    congr 1
    refine rise_same s t hs1.2 ht1.2 (fun x => ?_)
    have hx := h x
    simp only [List.mem_cons] at hx
    constructor
    · intro m
      have := hs1.1 x m
      rcases hx.1 (.inr m) with e | m2
      · omega
      · exact m2
    · intro m
      have := ht1.1 x m
      rcases hx.2 (.inr m) with e | m2
      · omega
      · exact m2


/-- A list written out, in a block of its own. -/
theorem in_list {α : Type} {enc : α → List Value} {ok : α → Prop} {d : α} {v : α → Value} (hv : ∀ x, enc x = [v x]) {w : World} {g : Nat} {T : TypeId} (l : List α) {arr : Array Value} (hl : l.map v = arr.toList) (hg : w.heap[g]? = some (.cells arr T (0, 0))) (hok : ∀ x ∈ l, ok x) (hm : l.length ≤ 9223372036854775807) :
    InRow 1 enc ok d w (some ⟨g, 0, none⟩) l.length l := by
  refine ⟨rfl, hm, .inr ⟨g, 0, rfl, ?_, fun i hi => ?_⟩⟩
  · rcases Nat.lt_or_ge g w.heap.size with q | q
    · exact q
    · rw [Array.getElem?_eq_none q] at hg; cases hg
  · have e0 : l.getD i d = l[i] := by simp [List.getD, hi]
    refine ⟨by rw [e0]; exact hok _ (List.getElem_mem _), fun j hj => ?_⟩
    obtain rfl : j = 0 := by omega
    have e1 : arr[i]? = some (v l[i]) := by rw [← Array.getElem?_toList, ← hl]; simp [hi]
    rw [e0, hv]
    simp [World.cell?, hg, e1]

theorem base_r (w : World) : Calls Tryz.prog 31 #[] w fun e w' => e = .returned (.slice (some ⟨w.heap.size, 0, none⟩) 4 4) ∧ IdIn w' (some ⟨w.heap.size, 0, none⟩) 4 ids4 ∧ Below w.heap.size w w' := by
  have HI : Hid (IdIn (w.alloc (.cells #[.int .u64 10, .int .u64 20, .int .u64 30, .int .u64 40] 59)) (some ⟨w.heap.size, 0, none⟩) 4 ids4) :=
    in_list (v := Value.int .u64) (T := 59) (arr := #[.int .u64 10, .int .u64 20, .int .u64 30, .int .u64 40]) (fun _ => rfl) ids4 rfl (heap_alloc_new w _) (by simp [ids4, u64]) (by decide)
  go_enter Tryz.func31, Tryz.ntmps31
  go_wp2
  go_ret
  exact ⟨rfl, HI.out, below_one _ _⟩

/-- New of the four places. -/
theorem new_base (a : Option Addr) (cap : Nat) (w : World) (h : IdIn w a 4 ids4) :
    Calls Tryz.prog 44 #[.slice a 4 cap] w fun e w' => ∃ r gp gk, e = .returned (.tuple #[.pointer (some ⟨r, 0, none⟩), .nilIface]) ∧ RingAt w' r gp gk ringA ∧ w.heap.size ≤ r ∧ w.heap.size ≤ gp ∧ w.heap.size ≤ gk ∧ Below w.heap.size w w' := by
  refine (new_four a cap ids4 w h).mono ?_
  rintro e w' ⟨h | h, hb⟩
  · obtain ⟨S, hp, hm, hl, _⟩ := h
    have e1 : S = ids4 := rise_same S ids4 hp (by simp [ids4]) hm
    rw [e1] at hl
    exact absurd hl (by decide)
  · obtain ⟨S, r, gp, gk, hp, hm, hl, he, hr, h1, h2, h3⟩ := h
    have e1 : S = ids4 := rise_same S ids4 hp (by simp [ids4]) hm
    rw [e1] at hr
    exact ⟨r, gp, gk, he, hr, h1, h2, h3, hb⟩

end Go.Proofs.YtmajlldfiiokoaaGreatDoor

/- The ring of the base, as it should be: whoever looks, it stays. Two rings side by side. -/
namespace Go.Proofs.YtmajlldfiiokoaaGreatDoor
open Go.ChangeShapes Go.WideShapes Go.ChangeAt Go.RowKit Go.Deep
set_option linter.unusedVariables false

theorem setK_same {R : Rg} {n : Int} {p : Pe} (h : R.kn n = some p) : R.setK n p = R := by
  cases R with
  | mk pl kn cl =>
    simp only [Rg.setK]
    congr 1
    funext k
    simp only [upd]
    split
    · rename_i e; rw [e]; exact h.symm
    · rfl
theorem within_same (x b : Int) : withinB x x b = false := by simp [withinB]
theorem stab_same {R : Rg} {n s id id' pr a b x : Int} (h1 : R.kn n = some ⟨id, pr, [s, a, b]⟩) (h2 : R.kn s = some ⟨id', n, [a, b, x]⟩) (hs : 0 ≤ s) (hn : 0 ≤ n) (hi : R.idOf n = id) : R.stab n = R := by
  have ln : R.lives n = true := by simp [Rg.lives, h1]
  have ls : R.lives s = true := by simp [Rg.lives, h2]
  have vn : R.lv n = true := by simp [Rg.lv, ln]; omega
  have vs : R.lv s = true := by simp [Rg.lv, ls]; omega
  have kn : R.know n = ⟨id, pr, [s, a, b]⟩ := by simp [Rg.know, h1]
  have ks : R.know s = ⟨id', n, [a, b, x]⟩ := by simp [Rg.know, h2]
  have hh : R.head n = s := by simp [Rg.head, kn, headF, vs]
  have hx : R.next n = s := by
    unfold Rg.next
    rw [hh, ks, kn]
    have : R.near n id s = false := by simp [Rg.near, hi, within_same]
    simp [this]
  unfold Rg.stab
  rw [ln, if_pos rfl, hx]
  have hl : R.learn n s = R := by
    unfold Rg.learn
    rw [kn, ks]
    exact setK_same h1
  rw [hl]
  unfold Rg.tell
  rw [ks]
  have hr : R.rect id' n n = n := by unfold Rg.rect; split <;> rfl
  simp only [hr]
  exact setK_same h2
theorem stab_none {R : Rg} {n : Int} (h : R.kn n = none) : R.stab n = R := by simp [Rg.stab, Rg.lives, h]

theorem nodup_sub : ∀ (t l : List Int), t.Nodup → (∀ x, x ∈ t → x ∈ l) → t.length ≤ l.length
  | [], l, _, _ => Nat.zero_le _
  | a :: t, l, hp, hs => by
    have ha : a ∈ l := hs a (by simp)
    obtain ⟨h1, h2⟩ := List.nodup_cons.1 hp
    have ih := nodup_sub t (l.erase a) h2 (fun x hx => (List.mem_erase_of_ne (show x ≠ a from fun e => h1 (by rw [← e]; exact hx))).2 (hs x (List.mem_cons_of_mem _ hx)))
    have := List.length_erase_of_mem ha
    have : 0 < l.length := List.length_pos_of_mem ha
    simp only [List.length_cons]
    omega

/-- What is known of the circle of four places. -/
structure Circ (l C : List Int) (c0 c1 c2 c3 : Int) : Prop where
  eq : C = [c0, c1, c2, c3]
  nd : [c0, c1, c2, c3].Nodup
  rng : ∀ x ∈ [c0, c1, c2, c3], 0 ≤ x ∧ x < 4
  all : ∀ n : Int, 0 ≤ n → n < 4 → n ∈ [c0, c1, c2, c3]
theorem circ_of {l S : List Int} (hl : l.length = 4) (hp : S.Pairwise (· < ·)) (hm : ∀ x, x ∈ S ↔ x ∈ l) (h4 : S.length = 4) : ∃ c0 c1 c2 c3, Circ l (circleOf l S) c0 c1 c2 c3 := by
  match S, h4, hp with
  | [s0, s1, s2, s3], _, hp =>
    have hin : ∀ x ∈ [s0, s1, s2, s3], ix l x < 4 ∧ l.getD (ix l x) 0 = x := fun x hx => by
      have h := ix_spec ((hm x).1 hx)
      exact ⟨by rw [← hl]; exact h.1, h.2.1⟩
    have hinj : ∀ x ∈ [s0, s1, s2, s3], ∀ y ∈ [s0, s1, s2, s3], ix l x = ix l y → x = y := fun x hx y hy e => by
      rw [← (hin x hx).2, ← (hin y hy).2, e]
    have hnd : [s0, s1, s2, s3].Nodup := hp.imp (fun h => by omega)
    have nd : ([s0, s1, s2, s3].map fun x => (ix l x : Int)).Nodup := by
      rw [List.Nodup, List.pairwise_map]
      refine List.Pairwise.imp_of_mem ?_ hnd
      intro a b ha hb hab e
      exact hab (hinj a ha b hb (by omega))
    refine ⟨ix l s0, ix l s1, ix l s2, ix l s3, rfl, nd, ?_, fun n h0 h1 => ?_⟩
    · intro x hx
      have : x ∈ [s0, s1, s2, s3].map fun x => (ix l x : Int) := hx
      obtain ⟨y, hy, rfl⟩ := List.mem_map.1 this
      have := (hin y hy).1
      omega
    · apply Classical.byContradiction
      intro hn
      have h5 := nodup_sub (n :: [(ix l s0 : Int), ix l s1, ix l s2, ix l s3]) [0, 1, 2, 3] (List.nodup_cons.2 ⟨hn, nd⟩) (fun x hx => by
        rcases List.mem_cons.1 hx with rfl | hx
        · simp; omega
        · have : x ∈ [s0, s1, s2, s3].map fun x => (ix l x : Int) := hx
          obtain ⟨y, hy, rfl⟩ := List.mem_map.1 this
          have := (hin y hy).1
          simp; omega)
      simp at h5

section
variable {l C : List Int} {c0 c1 c2 c3 : Int}
theorem Circ.kn (h : Circ l C c0 c1 c2 c3) :
    (newTo l C 4).kn c0 = some ⟨l.getD c0.toNat 0, c3, [c1, c2, c3]⟩ ∧ (newTo l C 4).kn c1 = some ⟨l.getD c1.toNat 0, c0, [c2, c3, c0]⟩ ∧ (newTo l C 4).kn c2 = some ⟨l.getD c2.toNat 0, c1, [c3, c0, c1]⟩ ∧ (newTo l C 4).kn c3 = some ⟨l.getD c3.toNat 0, c2, [c0, c1, c2]⟩ ∧
    (newTo l C 4).idOf c0 = l.getD c0.toNat 0 ∧ (newTo l C 4).idOf c1 = l.getD c1.toNat 0 ∧ (newTo l C 4).idOf c2 = l.getD c2.toNat 0 ∧ (newTo l C 4).idOf c3 = l.getD c3.toNat 0 ∧ ∀ n, n ∉ [c0, c1, c2, c3] → (newTo l C 4).kn n = none := by
  obtain ⟨rfl, nd, _, _⟩ := h
  simp only [List.nodup_cons, List.mem_cons, List.not_mem_nil, or_false, not_or, not_false_eq_true, List.nodup_nil, and_true] at nd
  obtain ⟨⟨h01, h02, h03⟩, ⟨h12, h13⟩, h23⟩ := nd
  refine ⟨?_, ?_, ?_, ?_, ?_, ?_, ?_, ?_, fun n hn => ?_⟩
  · simp [newTo, Rg.setK, Rg.setP, upd, others, h01, h02, h03]
  · simp [newTo, Rg.setK, Rg.setP, upd, others, h12, h13]
  · simp [newTo, Rg.setK, Rg.setP, upd, others, h23]
  · simp [newTo, Rg.setK, Rg.setP, upd, others]
  · simp [newTo, Rg.setK, Rg.setP, upd, Rg.idOf, h01, h02, h03]
  · simp [newTo, Rg.setK, Rg.setP, upd, Rg.idOf, h12, h13]
  · simp [newTo, Rg.setK, Rg.setP, upd, Rg.idOf, h23]
  · simp [newTo, Rg.setK, Rg.setP, upd, Rg.idOf]
  · simp only [List.mem_cons, List.not_mem_nil, or_false, not_or] at hn
    simp [newTo, Rg.setK, Rg.setP, upd, rg0, hn.1, hn.2.1, hn.2.2.1, hn.2.2.2]
theorem Circ.stays (h : Circ l C c0 c1 c2 c3) (n : Int) : (newTo l C 4).stab n = newTo l C 4 := by
  obtain ⟨k0, k1, k2, k3, i0, i1, i2, i3, kn⟩ := h.kn
  have r := h.rng
  have r0 := r c0 (by simp)
  have r1 := r c1 (by simp)
  have r2 := r c2 (by simp)
  have r3 := r c3 (by simp)
  by_cases hn : n ∈ [c0, c1, c2, c3]
  · simp only [List.mem_cons, List.not_mem_nil, or_false] at hn
    rcases hn with rfl | rfl | rfl | rfl
    · exact stab_same k0 k1 r1.1 r0.1 i0
    · exact stab_same k1 k2 r2.1 r1.1 i1
    · exact stab_same k2 k3 r3.1 r2.1 i2
    · exact stab_same k3 k0 r0.1 r3.1 i3
  · exact stab_none (kn n hn)
theorem Circ.known (h : Circ l C c0 c1 c2 c3) (n : Int) (h0 : 0 ≤ n) (h1 : n < 4) : ∃ p, (newTo l C 4).kn n = some p ∧ p.succ.length = 3 := by
  obtain ⟨k0, k1, k2, k3, _⟩ := h.kn
  have hn := h.all n h0 h1
  simp only [List.mem_cons, List.not_mem_nil, or_false] at hn
  rcases hn with rfl | rfl | rfl | rfl
  · exact ⟨_, k0, rfl⟩
  · exact ⟨_, k1, rfl⟩
  · exact ⟨_, k2, rfl⟩
  · exact ⟨_, k3, rfl⟩
end

/-- The same ring, whose lists keep clear of other blocks. -/
def Rg.withCl (R : Rg) (D : Nat → Prop) : Rg := ⟨R.pl, R.kn, D⟩
/-- A block that was just made is one that the lists keep clear of. -/
theorem RingAt.fresh {w w' : World} {r gp gk : Nat} {R : Rg} (h : RingAt w r gp gk R) (hl : ∀ k p, R.kn k = some p → p.succ.length = 3) (hb : Below w.heap.size w w') {g : Nat} (hg : w.heap.size ≤ g) (hg2 : g < w'.heap.size) : RingAt w' r gp gk (R.withCl (fun b => b = g)) := by
  have h' := h.below hb
  obtain ⟨mk, hk, hk'⟩ := h.known
  refine ⟨h'.box, h'.ne, h'.places, ⟨mk, hk.of_block (hb.block gk hk.lt), fun k => ?_⟩, h'.ids, fun b e => by show b < _; rw [show b = g from e]; exact hg2⟩
  have q := hk' k
  show KnOk w' (fun b => b = g) (R.kn k) (look mk k)
  cases hp : R.kn k with
  | none =>
    cases hv : look mk k with
    | none => exact trivial
    | some v => rw [hp, hv] at q; exact q.elim
  | some p =>
    cases hv : look mk k with
    | none => rw [hp, hv] at q; exact q.elim
    | some v =>
      rw [hp, hv] at q
      obtain ⟨a, len, cap, e, hpe, hd⟩ := q
      refine ⟨a, len, cap, e, hpe.below (Nat.le_refl _) hb, fun x hx hc => ?_⟩
      have h3 := hl k p hp
      have h4 := hpe.row.1
      rcases hpe.row.2.2 with h0 | ⟨b, o, ha, hlt, _⟩
      · omega
      · rw [ha] at hx
        cases hx
        have : b = g := hc
        omega
/-- A store into such a block leaves the ring as it is. -/
theorem RingAt.own {w w' : World} {r gp gk g : Nat} {R : Rg} (h : RingAt w r gp gk R) (hs : w.heap.size ≤ w'.heap.size) (hb : ∀ b, b < w.heap.size → b ≠ g → w'.heap[b]? = w.heap[b]?) (hg : R.cl g) (h1 : r ≠ g) (h2 : gp ≠ g) (h3 : gk ≠ g) : RingAt w' r gp gk R := by
  obtain ⟨mp, hp, hp'⟩ := h.places
  obtain ⟨mk, hk, hk'⟩ := h.known
  have hl := h.lt
  refine ⟨(hb r hl.1 h1).trans h.box, h.ne, ⟨mp, hp.of_block (hb gp hl.2.1 h2), hp'⟩, ⟨mk, hk.of_block (hb gk hl.2.2 h3), fun k => ?_⟩, h.ids, fun b e => Nat.lt_of_lt_of_le (h.old b e) hs⟩
  have q := hk' k
  cases hp : R.kn k with
  | none =>
    cases hv : look mk k with
    | none => exact trivial
    | some v => rw [hp, hv] at q; exact q.elim
  | some p =>
    cases hv : look mk k with
    | none => rw [hp, hv] at q; exact q.elim
    | some v =>
      rw [hp, hv] at q
      obtain ⟨a, len, cap, e, hpe, hd⟩ := q
      refine ⟨a, len, cap, e, ⟨hpe.hid, hpe.hpred, ⟨hpe.row.1, hpe.row.2.1, ?_⟩, hpe.hcap, hpe.hmost, hpe.hnil⟩, hd⟩
      rcases hpe.row.2.2 with h0 | ⟨b, o, ha, hlt, hc⟩
      · exact .inl h0
      · have hbg : b ≠ g := fun e => hd _ ha (by show R.cl b; rw [e]; exact hg)
        refine .inr ⟨b, o, ha, Nat.lt_of_lt_of_le hlt hs, fun i hi => ⟨(hc i hi).1, fun j hj => ?_⟩⟩
        rw [World.cell?_of_block (hb b hlt hbg)]
        exact (hc i hi).2 j hj
/-- A ring beside one that is written. -/
theorem RingAt.beside {w w' : World} {r gp gk r2 gp2 gk2 : Nat} {R R2 : Rg} (h : RingAt w r2 gp2 gk2 R2) (h1 : RingAt w r gp gk R) (k : Kp w w' gp gk) (n1 : r2 ≠ gp ∧ r2 ≠ gk) (n2 : gp2 ≠ gp ∧ gp2 ≠ gk) (n3 : gk2 ≠ gp ∧ gk2 ≠ gk) : RingAt w' r2 gp2 gk2 R2 := by
  obtain ⟨mp, hp, hp'⟩ := h.places
  obtain ⟨mk, hk, hk'⟩ := h.known
  obtain ⟨mp1, hmp, _⟩ := h1.places
  obtain ⟨mk1, hmk, _⟩ := h1.known
  have hl := h.lt
  exact ⟨(k.block r2 hl.1 n1.1 n1.2).trans h.box, h.ne, ⟨mp, hp.of_block (k.block gp2 hl.2.1 n2.1 n2.2), hp'⟩, ⟨mk, hk.of_block (k.block gk2 hl.2.2 n3.1 n3.2), fun x => (hk' x).kp k hmp hmk⟩, h.ids, fun b hb => Nat.lt_of_lt_of_le (h.old b hb) k.size⟩
end Go.Proofs.YtmajlldfiiokoaaGreatDoor
