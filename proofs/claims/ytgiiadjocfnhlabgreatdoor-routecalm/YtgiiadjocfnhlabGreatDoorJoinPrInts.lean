/- wigwagref09.Ints: are two lists the same? -/
import Derived.Test.YtgiiadjocfnhlabGreatDoorPrList
import Derived.Deep.QuietTactic
import Derived.Test.YtgiiadjocfnhlabGreatDoorChNew
import Derived.Test.YtgiiadjocfnhlabGreatDoorRingMath
set_option linter.unnecessarySimpa false
namespace Go.Proofs.YtgiiadjocfnhlabGreatDoor
open Go.ChangeShapes Go.WideShapes Go.ChangeAt Go.RowKit Go.Deep
set_option linter.unusedVariables false

theorem below_drew {B : Nat} {w w' : World} (h : Below B w w') (n : Nat) : Below B w (w'.drewN n) := ⟨h.os, h.tape, h.output, h.size, h.block⟩

def intsB (l k : List Int) : Bool := decide (l = k)
theorem ints_no {l k : List Int} (h : l.length ≠ k.length) : intsB l k = false := by
  unfold intsB; exact decide_eq_false fun e => h (by rw [e])
theorem ints_at {l k : List Int} (j : Nat) (h : l.getD j 0 ≠ k.getD j 0) : intsB l k = false := by
  unfold intsB; exact decide_eq_false fun e => h (by rw [e])
theorem ints_all {l k : List Int} (h0 : l.length = k.length) (h : ∀ j, j < l.length → l.getD j 0 = k.getD j 0) : intsB l k = true := by
  unfold intsB
  refine decide_eq_true (List.ext_getElem h0 fun i h1 h2 => ?_)
  have := h i h1
  simpa [List.getD, h1, h2] using this

set_option maxHeartbeats 1000000 in
theorem ints_any (a : Option Addr) (n c : Nat) (l : List Int) (b : Option Addr) (m d : Nat) (k : List Int) (w : World) (hl : InIn w a n l) (hk : InIn w b m k) :
    Calls Tryz.prog 18 #[.slice a n c, .slice b m d] w fun e w' => e = .returned (.bool (intsB l k)) ∧ Below w.heap.size w w' := by
  have HL : Hid (InIn w a n l) := hl
  have HK : Hid (InIn w b m k) := hk
  have h1 := hl.2.1
  have h2 := hk.2.1
  clear hl hk
  by_cases q : n = m
  · subst q
    have hq : ((n : Int) != (n : Int)) = false := by simp
    go_enter Tryz.func18, Tryz.ntmps18
    go_wp2
    go_loopg [13] n (fun kx s wr => ∃ j : Nat, s = .int .i64 j ∧ j ≤ n ∧ kx = n - j ∧ Hid (Below w.heap.size w wr) ∧ Hid (∀ i, i < j → l.getD i 0 = k.getD i 0))
    case atStart => exact ⟨0, rfl, Nat.zero_le _, rfl, (Below.refl _ _ : Below w.heap.size w w), (fun i hi => absurd hi (Nat.not_lt_zero _) : ∀ i, i < 0 → l.getD i 0 = k.getD i 0)⟩
    case round =>
      obtain ⟨j, rfl, hj, rfl, HB, I⟩ := hrel
      by_cases hlt : j < n
      · obtain ⟨b1, o1, rfl, hb1, _, hc1⟩ := (HL.out.below (Nat.le_refl _) HB.out).one (v := Value.int .i64) (fun _ => rfl) (i := j) hlt
        obtain ⟨b2, o2, rfl, hb2, _, hc2⟩ := (HK.out.below (Nat.le_refl _) HB.out).one (v := Value.int .i64) (fun _ => rfl) (i := j) hlt
        by_cases hx : l.getD j 0 = k.getD j 0
        · have HX : Hid _ := hx
          have I' : Hid (∀ i, i < j + 1 → l.getD i 0 = k.getD i 0) := fun i hi => by
            by_cases e : i = j
            · rw [e]; exact hx
            · exact I.out i (by omega)
          rw [← hx] at hc2
          generalize l.getD j 0 = x at hc1 hc2
          have hne : (x != x) = false := by simp
          clear hx
          go_wp2_with (go_quiet (fail))
          go_roundg (n - (j + 1))
          case measure => omega
          case rel => exact ⟨j + 1, by go_num, by omega, rfl, below_drew HB.out _, I'⟩
        · have HX : Hid (intsB l k = false) := ints_at j hx
          generalize l.getD j 0 = x at hc1 hx
          generalize k.getD j 0 = y at hc2 hx
          have hne : (x != y) = true := by simpa using hx
          go_wp2_with (go_quiet (fail))
          go_ret
          exact ⟨ret_b HX.out.symm, below_drew HB.out _⟩
      · go_wp2
        go_ret
        exact ⟨ret_b (ints_all (by rw [HL.out.1, HK.out.1]) (fun i hi => I.out i (by have := HL.out.1; omega))).symm, HB.out⟩
  · have E : Hid (intsB l k = false) := ints_no (by rw [HL.out.1, HK.out.1]; exact q)
    have hq : ((n : Int) != (m : Int)) = true := by simp; omega
    go_enter Tryz.func18, Tryz.ntmps18
    go_wp2
    go_ret
    exact ⟨ret_b E.out.symm, Below.refl _ _⟩
end Go.Proofs.YtgiiadjocfnhlabGreatDoor

/- Layer 10's answers that the document fixes. -/
namespace Go.Proofs.YtgiiadjocfnhlabGreatDoor
open Go.ChangeShapes Go.WideShapes Go.ChangeAt Go.RowKit Go.Deep
set_option linter.unusedVariables false

def ids4 : List Int := [10, 20, 30, 40]
def ringA : Rg := newTo ids4 [0, 1, 2, 3] 4
def ringB : Rg := ringA.join 4 25 0
def ringC : Rg := ringB.stab 4
def ringD : Rg := ringC.stab 1
theorem fix1 : ringA.joinC 4 25 0 = 0 := by kernel_rfl
theorem fix2 : ringB.stabC 4 = 0 := by kernel_rfl
theorem fix3 : ringC.stabC 1 = 0 := by kernel_rfl
theorem fix4 : ringD.kn 1 = some ⟨20, 0, [4, 2, 3]⟩ := by kernel_rfl
theorem fix5 : ringD.kn 2 = some ⟨30, 4, [3, 0, 1]⟩ := by kernel_rfl
theorem fix6 : ringD.lives 4 = true := by kernel_rfl
theorem fix7 : ringD.idOf 4 = 25 := by kernel_rfl
theorem rise_same : ∀ (s t : List Int), s.Pairwise (· < ·) → t.Pairwise (· < ·) → (∀ x, x ∈ s ↔ x ∈ t) → s = t
  | [], [], _, _, _ => rfl
  | [], b :: t, _, _, h => by have := (h b).2 (by simp); simp at this
  | a :: s, [], _, _, h => by have := (h a).1 (by simp); simp at this
  | a :: s, b :: t, hs, ht, h => by
    have hs1 := List.pairwise_cons.1 hs
    have ht1 := List.pairwise_cons.1 ht
    have hab : a = b := by
      have h1 := (h a).1 (by simp)
      have h2 := (h b).2 (by simp)
      rcases List.mem_cons.1 h1 with e | m
      · exact e
      · rcases List.mem_cons.1 h2 with e | m2
        · exact e.symm
        · have := ht1.1 a m; have := hs1.1 b m2; omega
    subst hab
    congr 1
    refine rise_same s t hs1.2 ht1.2 (fun x => ?_)
    have hx := h x
    simp only [List.mem_cons] at hx
    constructor
    · intro m
      have := hs1.1 x m
      rcases hx.1 (.inr m) with e | m2
      · omega
      · exact m2
    · intro m
      have := ht1.1 x m
      rcases hx.2 (.inr m) with e | m2
      · omega
      · exact m2


/-- A list written out, in a block of its own. -/
theorem in_list {α : Type} {enc : α → List Value} {ok : α → Prop} {d : α} {v : α → Value} (hv : ∀ x, enc x = [v x]) {w : World} {g : Nat} {T : TypeId} (l : List α) {arr : Array Value} (hl : l.map v = arr.toList) (hg : w.heap[g]? = some (.cells arr T (0, 0))) (hok : ∀ x ∈ l, ok x) (hm : l.length ≤ 9223372036854775807) :
    InRow 1 enc ok d w (some ⟨g, 0, none⟩) l.length l := by
  refine ⟨rfl, hm, .inr ⟨g, 0, rfl, ?_, fun i hi => ?_⟩⟩
  · rcases Nat.lt_or_ge g w.heap.size with q | q
    · exact q
    · rw [Array.getElem?_eq_none q] at hg; cases hg
  · have e0 : l.getD i d = l[i] := by simp [List.getD, hi]
    refine ⟨by rw [e0]; exact hok _ (List.getElem_mem _), fun j hj => ?_⟩
    obtain rfl : j = 0 := by omega
    have e1 : arr[i]? = some (v l[i]) := by rw [← Array.getElem?_toList, ← hl]; simp [hi]
    rw [e0, hv]
    simp [World.cell?, hg, e1]

theorem base_r (w : World) : Calls Tryz.prog 45 #[] w fun e w' => e = .returned (.slice (some ⟨w.heap.size, 0, none⟩) 4 4) ∧ IdIn w' (some ⟨w.heap.size, 0, none⟩) 4 ids4 ∧ Below w.heap.size w w' := by
  have HI : Hid (IdIn (w.alloc (.cells #[.int .u64 10, .int .u64 20, .int .u64 30, .int .u64 40] 26)) (some ⟨w.heap.size, 0, none⟩) 4 ids4) :=
    in_list (v := Value.int .u64) (T := 26) (arr := #[.int .u64 10, .int .u64 20, .int .u64 30, .int .u64 40]) (fun _ => rfl) ids4 rfl (heap_alloc_new w _) (by simp [ids4, u64]) (by decide)
  go_enter Tryz.func45, Tryz.ntmps45
  go_wp2
  go_ret
  exact ⟨rfl, HI.out, below_one _ _⟩

/-- New of the four places. -/
theorem new_base (a : Option Addr) (cap : Nat) (w : World) (h : IdIn w a 4 ids4) :
    Calls Tryz.prog 43 #[.slice a 4 cap] w fun e w' => ∃ r gp gk, e = .returned (.tuple #[.pointer (some ⟨r, 0, none⟩), .nilIface]) ∧ RingAt w' r gp gk ringA ∧ w.heap.size ≤ r ∧ w.heap.size ≤ gp ∧ w.heap.size ≤ gk ∧ Below w.heap.size w w' := by
  refine (new_four a cap ids4 w h).mono ?_
  rintro e w' ⟨h | h, hb⟩
  · obtain ⟨S, hp, hm, hl, _⟩ := h
    have e1 : S = ids4 := rise_same S ids4 hp (by simp [ids4]) hm
    rw [e1] at hl
    exact absurd hl (by decide)
  · obtain ⟨S, r, gp, gk, hp, hm, hl, he, hr, h1, h2, h3⟩ := h
    have e1 : S = ids4 := rise_same S ids4 hp (by simp [ids4]) hm
    rw [e1] at hr
    exact ⟨r, gp, gk, he, hr, h1, h2, h3, hb⟩

end Go.Proofs.YtgiiadjocfnhlabGreatDoor

/- The ring of the base, as it should be: whoever looks, it stays. Two rings side by side. -/
namespace Go.Proofs.YtgiiadjocfnhlabGreatDoor
open Go.ChangeShapes Go.WideShapes Go.ChangeAt Go.RowKit Go.Deep
set_option linter.unusedVariables false

theorem setK_same {R : Rg} {n : Int} {p : Pe} (h : R.kn n = some p) : R.setK n p = R := by
  cases R with
  | mk pl kn cl =>
    simp only [Rg.setK]
    congr 1
    funext k
    simp only [upd]
    split
    · rename_i e; rw [e]; exact h.symm
    · rfl
theorem within_same (x b : Int) : withinB x x b = false := by simp [withinB]
theorem stab_same {R : Rg} {n s id id' pr a b x : Int} (h1 : R.kn n = some ⟨id, pr, [s, a, b]⟩) (h2 : R.kn s = some ⟨id', n, [a, b, x]⟩) (hs : 0 ≤ s) (hn : 0 ≤ n) (hi : R.idOf n = id) : R.stab n = R := by
  have ln : R.lives n = true := by simp [Rg.lives, h1]
  have ls : R.lives s = true := by simp [Rg.lives, h2]
  have vn : R.lv n = true := by simp [Rg.lv, ln]; omega
  have vs : R.lv s = true := by simp [Rg.lv, ls]; omega
  have kn : R.know n = ⟨id, pr, [s, a, b]⟩ := by simp [Rg.know, h1]
  have ks : R.know s = ⟨id', n, [a, b, x]⟩ := by simp [Rg.know, h2]
  have hh : R.head n = s := by simp [Rg.head, kn, headF, vs]
  have hx : R.next n = s := by
    unfold Rg.next
    rw [hh, ks, kn]
    have : R.near n id s = false := by simp [Rg.near, hi, within_same]
    simp [this]
  unfold Rg.stab
  rw [ln, if_pos rfl, hx]
  have hl : R.learn n s = R := by
    unfold Rg.learn
    rw [kn, ks]
    exact setK_same h1
  rw [hl]
  unfold Rg.tell
  rw [ks]
  have hr : R.rect id' n n = n := by unfold Rg.rect; split <;> rfl
  simp only [hr]
  exact setK_same h2
theorem stab_none {R : Rg} {n : Int} (h : R.kn n = none) : R.stab n = R := by simp [Rg.stab, Rg.lives, h]

theorem nodup_sub : ∀ (t l : List Int), t.Nodup → (∀ x, x ∈ t → x ∈ l) → t.length ≤ l.length
  | [], l, _, _ => Nat.zero_le _
  | a :: t, l, hp, hs => by
    have ha : a ∈ l := hs a (by simp)
    obtain ⟨h1, h2⟩ := List.nodup_cons.1 hp
    have ih := nodup_sub t (l.erase a) h2 (fun x hx => (List.mem_erase_of_ne (show x ≠ a from fun e => h1 (by rw [← e]; exact hx))).2 (hs x (List.mem_cons_of_mem _ hx)))
    have := List.length_erase_of_mem ha
    have : 0 < l.length := List.length_pos_of_mem ha
    simp only [List.length_cons]
    omega

/-- What is known of the circle of four places. -/
structure Circ (l C : List Int) (c0 c1 c2 c3 : Int) : Prop where
  eq : C = [c0, c1, c2, c3]
  nd : [c0, c1, c2, c3].Nodup
  rng : ∀ x ∈ [c0, c1, c2, c3], 0 ≤ x ∧ x < 4
  all : ∀ n : Int, 0 ≤ n → n < 4 → n ∈ [c0, c1, c2, c3]
theorem circ_of {l S : List Int} (hl : l.length = 4) (hp : S.Pairwise (· < ·)) (hm : ∀ x, x ∈ S ↔ x ∈ l) (h4 : S.length = 4) : ∃ c0 c1 c2 c3, Circ l (circleOf l S) c0 c1 c2 c3 := by
  match S, h4, hp with
  | [s0, s1, s2, s3], _, hp =>
    have hin : ∀ x ∈ [s0, s1, s2, s3], ix l x < 4 ∧ l.getD (ix l x) 0 = x := fun x hx => by
      have h := ix_spec ((hm x).1 hx)
      exact ⟨by rw [← hl]; exact h.1, h.2.1⟩
    have hinj : ∀ x ∈ [s0, s1, s2, s3], ∀ y ∈ [s0, s1, s2, s3], ix l x = ix l y → x = y := fun x hx y hy e => by
      rw [← (hin x hx).2, ← (hin y hy).2, e]
    have hnd : [s0, s1, s2, s3].Nodup := hp.imp (fun h => by omega)
    have nd : ([s0, s1, s2, s3].map fun x => (ix l x : Int)).Nodup := by
      rw [List.Nodup, List.pairwise_map]
      refine List.Pairwise.imp_of_mem ?_ hnd
      intro a b ha hb hab e
      exact hab (hinj a ha b hb (by omega))
    refine ⟨ix l s0, ix l s1, ix l s2, ix l s3, rfl, nd, ?_, fun n h0 h1 => ?_⟩
    · intro x hx
      have : x ∈ [s0, s1, s2, s3].map fun x => (ix l x : Int) := hx
      obtain ⟨y, hy, rfl⟩ := List.mem_map.1 this
      have := (hin y hy).1
      omega
    · apply Classical.byContradiction
      intro hn
      have h5 := nodup_sub (n :: [(ix l s0 : Int), ix l s1, ix l s2, ix l s3]) [0, 1, 2, 3] (List.nodup_cons.2 ⟨hn, nd⟩) (fun x hx => by
        rcases List.mem_cons.1 hx with rfl | hx
        · simp; omega
        · have : x ∈ [s0, s1, s2, s3].map fun x => (ix l x : Int) := hx
          obtain ⟨y, hy, rfl⟩ := List.mem_map.1 this
          have := (hin y hy).1
          simp; omega)
      simp at h5

section
variable {l C : List Int} {c0 c1 c2 c3 : Int}
theorem Circ.kn (h : Circ l C c0 c1 c2 c3) :
    (newTo l C 4).kn c0 = some ⟨l.getD c0.toNat 0, c3, [c1, c2, c3]⟩ ∧ (newTo l C 4).kn c1 = some ⟨l.getD c1.toNat 0, c0, [c2, c3, c0]⟩ ∧ (newTo l C 4).kn c2 = some ⟨l.getD c2.toNat 0, c1, [c3, c0, c1]⟩ ∧ (newTo l C 4).kn c3 = some ⟨l.getD c3.toNat 0, c2, [c0, c1, c2]⟩ ∧
    (newTo l C 4).idOf c0 = l.getD c0.toNat 0 ∧ (newTo l C 4).idOf c1 = l.getD c1.toNat 0 ∧ (newTo l C 4).idOf c2 = l.getD c2.toNat 0 ∧ (newTo l C 4).idOf c3 = l.getD c3.toNat 0 ∧ ∀ n, n ∉ [c0, c1, c2, c3] → (newTo l C 4).kn n = none := by
  obtain ⟨rfl, nd, _, _⟩ := h
  simp only [List.nodup_cons, List.mem_cons, List.not_mem_nil, or_false, not_or, not_false_eq_true, List.nodup_nil, and_true] at nd
  obtain ⟨⟨h01, h02, h03⟩, ⟨h12, h13⟩, h23⟩ := nd
  refine ⟨?_, ?_, ?_, ?_, ?_, ?_, ?_, ?_, fun n hn => ?_⟩
  · simp [newTo, Rg.setK, Rg.setP, upd, others, h01, h02, h03]
  · simp [newTo, Rg.setK, Rg.setP, upd, others, h12, h13]
  · simp [newTo, Rg.setK, Rg.setP, upd, others, h23]
  · simp [newTo, Rg.setK, Rg.setP, upd, others]
  · simp [newTo, Rg.setK, Rg.setP, upd, Rg.idOf, h01, h02, h03]
  · simp [newTo, Rg.setK, Rg.setP, upd, Rg.idOf, h12, h13]
  · simp [newTo, Rg.setK, Rg.setP, upd, Rg.idOf, h23]
  · simp [newTo, Rg.setK, Rg.setP, upd, Rg.idOf]
  · simp only [List.mem_cons, List.not_mem_nil, or_false, not_or] at hn
    simp [newTo, Rg.setK, Rg.setP, upd, rg0, hn.1, hn.2.1, hn.2.2.1, hn.2.2.2]
theorem Circ.stays (h : Circ l C c0 c1 c2 c3) (n : Int) : (newTo l C 4).stab n = newTo l C 4 := by
  obtain ⟨k0, k1, k2, k3, i0, i1, i2, i3, kn⟩ := h.kn
  have r := h.rng
  have r0 := r c0 (by simp)
  have r1 := r c1 (by simp)
  have r2 := r c2 (by simp)
  have r3 := r c3 (by simp)
  by_cases hn : n ∈ [c0, c1, c2, c3]
  · simp only [List.mem_cons, List.not_mem_nil, or_false] at hn
    rcases hn with rfl | rfl | rfl | rfl
    · exact stab_same k0 k1 r1.1 r0.1 i0
    · exact stab_same k1 k2 r2.1 r1.1 i1
    · exact stab_same k2 k3 r3.1 r2.1 i2
    · exact stab_same k3 k0 r0.1 r3.1 i3
  · exact stab_none (kn n hn)
theorem Circ.known (h : Circ l C c0 c1 c2 c3) (n : Int) (h0 : 0 ≤ n) (h1 : n < 4) : ∃ p, (newTo l C 4).kn n = some p ∧ p.succ.length = 3 := by
  obtain ⟨k0, k1, k2, k3, _⟩ := h.kn
  have hn := h.all n h0 h1
  simp only [List.mem_cons, List.not_mem_nil, or_false] at hn
  rcases hn with rfl | rfl | rfl | rfl
  · exact ⟨_, k0, rfl⟩
  · exact ⟨_, k1, rfl⟩
  · exact ⟨_, k2, rfl⟩
  · exact ⟨_, k3, rfl⟩
end

/-- The same ring, whose lists keep clear of other blocks. -/
def Rg.withCl (R : Rg) (D : Nat → Prop) : Rg := ⟨R.pl, R.kn, D⟩
/-- A block that was just made is one that the lists keep clear of. -/
theorem RingAt.fresh {w w' : World} {r gp gk : Nat} {R : Rg} (h : RingAt w r gp gk R) (hl : ∀ k p, R.kn k = some p → p.succ.length = 3) (hb : Below w.heap.size w w') {g : Nat} (hg : w.heap.size ≤ g) (hg2 : g < w'.heap.size) : RingAt w' r gp gk (R.withCl (fun b => b = g)) := by
  have h' := h.below hb
  obtain ⟨mk, hk, hk'⟩ := h.known
  refine ⟨h'.box, h'.ne, h'.places, ⟨mk, hk.of_block (hb.block gk hk.lt), fun k => ?_⟩, h'.ids, fun b e => by show b < _; rw [show b = g from e]; exact hg2⟩
  have q := hk' k
  show KnOk w' (fun b => b = g) (R.kn k) (look mk k)
  cases hp : R.kn k with
  | none =>
    cases hv : look mk k with
    | none => exact trivial
    | some v => rw [hp, hv] at q; exact q.elim
  | some p =>
    cases hv : look mk k with
    | none => rw [hp, hv] at q; exact q.elim
    | some v =>
      rw [hp, hv] at q
      obtain ⟨a, len, cap, e, hpe, hd⟩ := q
      refine ⟨a, len, cap, e, hpe.below (Nat.le_refl _) hb, fun x hx hc => ?_⟩
      have h3 := hl k p hp
      have h4 := hpe.row.1
      rcases hpe.row.2.2 with h0 | ⟨b, o, ha, hlt, _⟩
      · omega
      · rw [ha] at hx
        cases hx
        have : b = g := hc
        omega
/-- A store into such a block leaves the ring as it is. -/
theorem RingAt.own {w w' : World} {r gp gk g : Nat} {R : Rg} (h : RingAt w r gp gk R) (hs : w.heap.size ≤ w'.heap.size) (hb : ∀ b, b < w.heap.size → b ≠ g → w'.heap[b]? = w.heap[b]?) (hg : R.cl g) (h1 : r ≠ g) (h2 : gp ≠ g) (h3 : gk ≠ g) : RingAt w' r gp gk R := by
  obtain ⟨mp, hp, hp'⟩ := h.places
  obtain ⟨mk, hk, hk'⟩ := h.known
  have hl := h.lt
  refine ⟨(hb r hl.1 h1).trans h.box, h.ne, ⟨mp, hp.of_block (hb gp hl.2.1 h2), hp'⟩, ⟨mk, hk.of_block (hb gk hl.2.2 h3), fun k => ?_⟩, h.ids, fun b e => Nat.lt_of_lt_of_le (h.old b e) hs⟩
  have q := hk' k
  cases hp : R.kn k with
  | none =>
    cases hv : look mk k with
    | none => exact trivial
    | some v => rw [hp, hv] at q; exact q.elim
  | some p =>
    cases hv : look mk k with
    | none => rw [hp, hv] at q; exact q.elim
    | some v =>
      rw [hp, hv] at q
      obtain ⟨a, len, cap, e, hpe, hd⟩ := q
      refine ⟨a, len, cap, e, ⟨hpe.hid, hpe.hpred, ⟨hpe.row.1, hpe.row.2.1, ?_⟩, hpe.hcap, hpe.hmost, hpe.hnil⟩, hd⟩
      rcases hpe.row.2.2 with h0 | ⟨b, o, ha, hlt, hc⟩
      · exact .inl h0
      · have hbg : b ≠ g := fun e => hd _ ha (by show R.cl b; rw [e]; exact hg)
        refine .inr ⟨b, o, ha, Nat.lt_of_lt_of_le hlt hs, fun i hi => ⟨(hc i hi).1, fun j hj => ?_⟩⟩
        rw [World.cell?_of_block (hb b hlt hbg)]
        exact (hc i hi).2 j hj
/-- A ring beside one that is written. -/
theorem RingAt.beside {w w' : World} {r gp gk r2 gp2 gk2 : Nat} {R R2 : Rg} (h : RingAt w r2 gp2 gk2 R2) (h1 : RingAt w r gp gk R) (k : Kp w w' gp gk) (n1 : r2 ≠ gp ∧ r2 ≠ gk) (n2 : gp2 ≠ gp ∧ gp2 ≠ gk) (n3 : gk2 ≠ gp ∧ gk2 ≠ gk) : RingAt w' r2 gp2 gk2 R2 := by
  obtain ⟨mp, hp, hp'⟩ := h.places
  obtain ⟨mk, hk, hk'⟩ := h.known
  obtain ⟨mp1, hmp, _⟩ := h1.places
  obtain ⟨mk1, hmk, _⟩ := h1.known
  have hl := h.lt
  exact ⟨(k.block r2 hl.1 n1.1 n1.2).trans h.box, h.ne, ⟨mp, hp.of_block (k.block gp2 hl.2.1 n2.1 n2.2), hp'⟩, ⟨mk, hk.of_block (k.block gk2 hl.2.2 n3.1 n3.2), fun x => (hk' x).kp k hmp hmk⟩, h.ids, fun b hb => Nat.lt_of_lt_of_le (h.old b hb) k.size⟩
end Go.Proofs.YtgiiadjocfnhlabGreatDoor

/- Calls of wigwaglaw10 that come in; what stays whoever looks. -/
namespace Go.Proofs.YtgiiadjocfnhlabGreatDoor
open Go.ChangeShapes Go.WideShapes Go.ChangeAt Go.RowKit Go.Deep
set_option linter.unusedVariables false

/-- A call of wigwaglaw10's. -/
structure Ac10 where
  kind : Int
  n : Int
  via : Int
  id : Int
def ac100 : Ac10 := ⟨0, 0, 0, 0⟩
def Ac10.cells (t : Ac10) : List Value := [.int .i64 t.kind, .int .i64 t.n, .int .i64 t.via, .int .u64 t.id]
def Ac10.ok (t : Ac10) : Prop := i64 t.kind ∧ i64 t.n ∧ i64 t.via ∧ u64 t.id
theorem lenAc10 (s : Ac10) : s.cells.length = 4 := rfl
theorem cellsAc10 : Tryz.prog.cellsOf 50 = 4 := by kernel_rfl
section
variable {H : Type} {enc' : TypeId × Value → H} {W : World}
set_option maxRecDepth 100000 in
theorem ac10_of (n : Nat) (cs : List Value) (x : DataW H × List MemPlace) (h : DataW.trod enc' Tryz.prog W 0 (fun _ => true) true n 50 cs = some x) : ∃ t : Ac10, cs = t.cells ∧ t.ok := by
  obtain ⟨xs, m, _, _, hl, hlen, hf⟩ := DataW.trod_struct Tryz.underlying50 h
  rw [cellsAc10] at hl
  match cs, hl with
  | [c0, c1, c2, c3], _ =>
    match xs, hlen with
    | [y0, y1, y2, y3], _ =>
      have f0 := hf 0 _ rfl
      have f1 := hf 1 _ rfl
      have f2 := hf 2 _ rfl
      have f3 := hf 3 _ rfl
      simp [cellsI1, cellsU1] at f0 f1 f2 f3
      obtain ⟨k, e0, _, wk⟩ := DataW.trod_int Tryz.underlying3 f0
      obtain ⟨n, e1, _, wn⟩ := DataW.trod_int Tryz.underlying3 f1
      obtain ⟨u, e2, _, wu⟩ := DataW.trod_int Tryz.underlying3 f2
      obtain ⟨s, e3, _, ws⟩ := DataW.trod_int Tryz.underlying26 f3
      simp at e0 e1 e2 e3
      subst e0 e1 e2 e3
      exact ⟨⟨k, n, u, s⟩, rfl, bounds_i64 wk, bounds_i64 wn, bounds_i64 wu, bounds_u64 ws⟩
theorem act_end : True := trivial
end
abbrev AcIn (w : World) (a : Option Addr) (len : Nat) (l : List Ac10) : Prop := InRow 4 Ac10.cells Ac10.ok ac100 w a len l
theorem AcIn.at {w : World} {a : Option Addr} {len : Nat} {l : List Ac10} (h : AcIn w a len l) {i : Nat} (hi : i < len) :
    ∃ b o, a = some ⟨b, o, none⟩ ∧ b < w.heap.size ∧ (l.getD i ac100).ok ∧ w.cell? ⟨b, o + i * 4, none⟩ = some (.int .i64 (l.getD i ac100).kind) ∧ w.cell? ⟨b, o + i * 4 + 1, none⟩ = some (.int .i64 (l.getD i ac100).n) ∧ w.cell? ⟨b, o + i * 4 + 2, none⟩ = some (.int .i64 (l.getD i ac100).via) ∧ w.cell? ⟨b, o + i * 4 + 3, none⟩ = some (.int .u64 (l.getD i ac100).id) := by
  rcases h.2.2 with h0 | ⟨b, o, ha, hlt, hc⟩
  · omega
  · have q := (hc i hi).2
    exact ⟨b, o, ha, hlt, (hc i hi).1, q 0 (by omega), q 1 (by omega), q 2 (by omega), q 3 (by omega)⟩

/-- The same ones live, at the same places. -/
def Alike (R R' : Rg) : Prop := (∀ n, 0 ≤ n → R'.lives n = R.lives n) ∧ R'.pl = R.pl
theorem Alike.refl (R : Rg) : Alike R R := ⟨fun _ _ => rfl, rfl⟩
theorem Alike.trans {A B C : Rg} (h : Alike A B) (h' : Alike B C) : Alike A C := ⟨fun n hn => (h'.1 n hn).trans (h.1 n hn), h'.2.trans h.2⟩
theorem head_lv (L : Int → Bool) (l : List Int) : headF L l = -1 ∨ L (headF L l) = true := by
  induction l with
  | nil => exact .inl rfl
  | cons a l ih =>
    cases h : L a
    · simp only [headF, h]; exact ih
    · simp only [headF, h]; exact .inr (by simp [h])
theorem next_lives (R : Rg) (n : Int) : R.next n = -1 ∨ R.lives (R.next n) = true := by
  have lv : ∀ x, R.lv x = true → R.lives x = true := fun x h => by simp only [Rg.lv, Bool.and_eq_true] at h; exact h.2
  unfold Rg.next
  split
  · rename_i h
    simp only [Rg.near, Bool.and_eq_true] at h
    exact .inr (lv _ h.1)
  · rcases head_lv R.lv (R.know n).succ with h | h
    · exact .inl h
    · exact .inr (lv _ h)
theorem lives_setK (R : Rg) (n : Int) (p : Pe) (x : Int) : (R.setK n p).lives x = if x = n then true else R.lives x := by
  simp only [Rg.lives, Rg.setK, upd]; split <;> simp
theorem stab_alike (R : Rg) (n : Int) : Alike R (R.stab n) := by
  unfold Rg.stab
  split
  · rename_i hl
    refine ⟨fun x hx => ?_, rfl⟩
    unfold Rg.tell Rg.learn
    rw [lives_setK, lives_setK]
    split
    · rename_i e
      rcases next_lives R n with h | h
      · omega
      · rw [e, h]
    · split
      · rename_i e; rw [e, hl]
      · rfl
  · exact Alike.refl R
theorem stab_lives (R : Rg) (n : Int) : (R.stab n).lives n = R.lives n := by
  unfold Rg.stab
  split
  · rename_i hl
    unfold Rg.tell Rg.learn
    rw [lives_setK, lives_setK]
    simp [hl]
  · rfl
theorem round_alike (R : Rg) : Alike R R.round := by
  unfold Rg.round
  generalize R.live = l
  induction l generalizing R with
  | nil => exact Alike.refl R
  | cons a l ih => exact (stab_alike R a).trans (ih (R.stab a))
theorem Alike.live {R R' : Rg} (h : Alike R R') : R'.live = R.live := by
  unfold Rg.live
  generalize 32 = k
  induction k with
  | zero => rfl
  | succ k ih =>
    unfold Rg.liveTo
    rw [h.1 k (by omega), ih]
theorem Alike.idOf {R R' : Rg} (h : Alike R R') (n : Int) : R'.idOf n = R.idOf n := by unfold Rg.idOf; rw [h.2]
end Go.Proofs.YtgiiadjocfnhlabGreatDoor

/- What stays of a ring whatever the calls: the base, who went; how many live. -/
namespace Go.Proofs.YtgiiadjocfnhlabGreatDoor
open Go.ChangeShapes Go.WideShapes Go.ChangeAt Go.RowKit Go.Deep
set_option linter.unusedVariables false

/-- Those that live have an address and a place, and the base lives. -/
structure Sane (R : Rg) : Prop where
  rng : ∀ n, R.lives n = true → n = -1 ∨ (0 ≤ n ∧ n < 32)
  pl : ∀ n, 0 ≤ n → R.lives n = true → (R.pl n).isSome = true
  base : ∀ n, 0 ≤ n → n < 4 → R.lives n = true

theorem live_other {R R' : Rg} {n : Int} (h : ∀ x, x ≠ n → R'.lives x = R.lives x) (k : Nat) (hk : (k : Int) ≤ n) : R'.liveTo k = R.liveTo k := by
  induction k with
  | zero => rfl
  | succ k ih =>
    unfold Rg.liveTo
    rw [h k (by omega), ih (by omega)]
theorem live_neg {R R' : Rg} {n : Int} (h : ∀ x, x ≠ n → R'.lives x = R.lives x) (hn : n < 0) (k : Nat) : R'.liveTo k = R.liveTo k := by
  induction k with
  | zero => rfl
  | succ k ih =>
    unfold Rg.liveTo
    rw [h k (by omega), ih]
theorem live_up {R R' : Rg} {n : Int} (h : ∀ x, x ≠ n → R'.lives x = R.lives x) (h0 : R.lives n = false) (h1 : R'.lives n = true) (hn : 0 ≤ n) (k : Nat) (hk : n < k) : (R'.liveTo k).length = (R.liveTo k).length + 1 := by
  induction k with
  | zero => omega
  | succ k ih =>
    by_cases e : n = k
    · subst e
      unfold Rg.liveTo
      rw [h0, h1, live_other h k (by omega)]
      simp
    · have := ih (by omega)
      unfold Rg.liveTo
      rw [h k (fun q => e q.symm)]
      split
      · simp [this]
      · exact this

theorem joinC_zero {R : Rg} {n id via : Int} (h : R.joinC n id via = 0) : 0 ≤ n ∧ n < 32 ∧ R.pl n = none := by
  unfold Rg.joinC at h
  by_cases q : n < 0 ∨ 32 ≤ n
  · rw [if_pos q] at h; cases h
  · rw [if_neg q] at h
    refine ⟨by omega, by omega, ?_⟩
    cases hp : R.pl n with
    | none => rfl
    | some x => rw [hp] at h; simp at h
theorem failC_zero {R : Rg} {n : Int} (h : R.failC n = 0) : R.lives n = true ∧ 4 ≤ n := by
  unfold Rg.failC at h
  cases hl : R.lives n
  · rw [hl] at h; simp at h
  · rw [hl] at h
    by_cases q : n < 4 ∨ R.needed n = true
    · simp [q] at h
    · exact ⟨rfl, by omega⟩
theorem lives_delK (R : Rg) (n x : Int) : (R.delK n).lives x = if x = n then false else R.lives x := by
  simp only [Rg.lives, Rg.delK, upd]; split <;> simp
theorem lives_joined (R : Rg) (n id y x : Int) : (R.joined n id y).lives x = if x = n then true else R.lives x := by
  unfold Rg.joined; rw [lives_setK]; rfl
theorem pl_joined (R : Rg) (n id y x : Int) : (R.joined n id y).pl x = if x = n then some id else R.pl x := rfl

theorem Sane.join {R : Rg} (h : Sane R) (n id via : Int) : Sane (R.join n id via) ∧ ((R.join n id via).live.length = R.live.length + if R.joinC n id via = 0 then 1 else 0) ∧ (∀ x, (R.pl x).isSome = true → ((R.join n id via).pl x).isSome = true ∧ ((R.join n id via).lives x = R.lives x)) := by
  unfold Rg.join
  by_cases q : R.joinC n id via = 0
  · rw [if_pos q, if_pos q]
    obtain ⟨h0, h1, h2⟩ := joinC_zero q
    have hln : R.lives n = false := by
      cases hl : R.lives n
      · rfl
      · have := h.pl n h0 hl; rw [h2] at this; cases this
    refine ⟨⟨fun x hx => ?_, fun x hx0 hx => ?_, fun x hx0 hx1 => ?_⟩, ?_, fun x hx => ⟨?_, ?_⟩⟩
    · rw [lives_joined] at hx
      split at hx
      · rename_i e; exact .inr (by omega)
      · exact h.rng x hx
    · rw [lives_joined] at hx
      rw [pl_joined]
      split
      · rfl
      · rename_i e; rw [if_neg e] at hx; exact h.pl x hx0 hx
    · rw [lives_joined]
      split
      · rfl
      · exact h.base x hx0 hx1
    · exact live_up (fun x hx => by rw [lives_joined, if_neg hx]) hln (by rw [lives_joined, if_pos rfl]) h0 32 (by omega)
    · rw [pl_joined]; split
      · rfl
      · exact hx
    · rw [lives_joined]; split
      · rename_i e; rw [e, h2] at hx; cases hx
      · rfl
  · rw [if_neg q, if_neg q]
    exact ⟨h, rfl, fun x hx => ⟨hx, rfl⟩⟩
theorem Sane.fail {R : Rg} (h : Sane R) (n : Int) : Sane (R.fail n) ∧ ((R.fail n).live.length + (if R.failC n = 0 then 1 else 0) = R.live.length) ∧ (R.fail n).pl = R.pl ∧ (∀ x, R.lives x = false → (R.fail n).lives x = false) ∧ (R.failC n = 0 → (R.fail n).lives n = false ∧ 4 ≤ n ∧ n < 32 ∧ (R.pl n).isSome = true) := by
  unfold Rg.fail
  by_cases q : R.failC n = 0
  · rw [if_pos q, if_pos q]
    obtain ⟨h0, h1⟩ := failC_zero q
    have hr := h.rng n h0
    refine ⟨⟨fun x hx => ?_, fun x hx0 hx => ?_, fun x hx0 hx1 => ?_⟩, ?_, rfl, fun x hx => ?_, fun _ => ⟨by rw [lives_delK, if_pos rfl], h1, by omega, h.pl n (by omega) h0⟩⟩
    · rw [lives_delK] at hx; split at hx
      · cases hx
      · exact h.rng x hx
    · rw [lives_delK] at hx; split at hx
      · cases hx
      · exact h.pl x hx0 hx
    · rw [lives_delK, if_neg (by omega)]; exact h.base x hx0 hx1
    · exact (live_up (R := R.delK n) (R' := R) (n := n) (fun x hx => by rw [lives_delK, if_neg hx]) (by rw [lives_delK, if_pos rfl]) h0 (by omega) 32 (by omega)).symm
    · rw [lives_delK]; split
      · rfl
      · exact hx
  · rw [if_neg q, if_neg q]
    exact ⟨h, rfl, rfl, fun x hx => hx, fun e => absurd e q⟩
theorem stab_range {R : Rg} (h : Sane R) (n : Int) (x : Int) (hx : (R.stab n).lives x = true) : x = -1 ∨ R.lives x = true := by
  unfold Rg.stab at hx
  split at hx
  · rename_i hl
    unfold Rg.tell Rg.learn at hx
    rw [lives_setK, lives_setK] at hx
    split at hx
    · rename_i e
      rcases next_lives R n with q | q
      · exact .inl (e.trans q)
      · exact .inr (by rw [e]; exact q)
    · split at hx
      · rename_i e; exact .inr (by rw [e]; exact hl)
      · exact .inr hx
  · exact .inr hx
theorem Sane.stab {R : Rg} (h : Sane R) (n : Int) : Sane (R.stab n) := by
  have ha := stab_alike R n
  refine ⟨fun x hx => ?_, fun x hx0 hx => ?_, fun x hx0 hx1 => ?_⟩
  · rcases stab_range h n x hx with e | e
    · exact .inl e
    · exact h.rng x e
  · rw [ha.2]; rw [ha.1 x hx0] at hx; exact h.pl x hx0 hx
  · rw [ha.1 x hx0]; exact h.base x hx0 hx1
theorem Sane.round {R : Rg} (h : Sane R) : Sane R.round := by
  unfold Rg.round
  generalize R.live = l
  induction l generalizing R with
  | nil => exact h
  | cons a l ih => exact ih (h.stab a)
theorem Circ.sane {l C : List Int} {c0 c1 c2 c3 : Int} (h : Circ l C c0 c1 c2 c3) (hp : ∀ n, 0 ≤ n → (newTo l C 4).lives n = true → ((newTo l C 4).pl n).isSome = true) : Sane (newTo l C 4) := by
  obtain ⟨k0, k1, k2, k3, _, _, _, _, kn⟩ := h.kn
  refine ⟨fun n hn => ?_, hp, fun n h0 h1 => ?_⟩
  · by_cases hm : n ∈ [c0, c1, c2, c3]
    · have := h.rng n hm; exact .inr (by omega)
    · have := kn n hm
      simp [Rg.lives, this] at hn
  · obtain ⟨p, e, _⟩ := h.known n h0 h1
    simp [Rg.lives, e]
theorem newTo_pl (l C : List Int) (k : Nat) (n : Int) : (newTo l C k).lives n = true → ((newTo l C k).pl n).isSome = true := by
  induction k with
  | zero => intro h; cases h
  | succ k ih =>
    rw [newTo_succ, lives_setK]
    intro h
    simp only [Rg.setK, Rg.setP, upd]
    split
    · rfl
    · rename_i e
      rw [if_neg e] at h
      exact ih h
theorem cl_join (R : Rg) (n id via : Int) : (R.join n id via).cl = R.cl := by unfold Rg.join; split <;> rfl
theorem cl_fail (R : Rg) (n : Int) : (R.fail n).cl = R.cl := by unfold Rg.fail; split <;> rfl
theorem cl_stab (R : Rg) (n : Int) : (R.stab n).cl = R.cl := by unfold Rg.stab; split <;> rfl
theorem cl_round (R : Rg) : R.round.cl = R.cl := by
  unfold Rg.round
  generalize R.live = l
  induction l generalizing R with
  | nil => rfl
  | cons a l ih => exact (ih (R.stab a)).trans (cl_stab R a)
end Go.Proofs.YtgiiadjocfnhlabGreatDoor

/- Arcs of the circle on which no base place lies; ranks by a distance. No program in sight. -/
namespace Go.Proofs.YtgiiadjocfnhlabGreatDoor
set_option linter.unusedVariables false

/-- A place. -/
def Plc (x : Int) : Prop := 0 ≤ x ∧ x ≤ 18446744073709551615
theorem dist_tri (a b c : Int) : dist a c = dist a b + dist b c ∨ dist a c = dist a b + dist b c - 18446744073709551616 := by unfold dist; omega
theorem dist_zero {a b : Int} (ha : Plc a) (hb : Plc b) : dist a b = 0 ↔ a = b := by
  unfold Plc at *
  constructor
  · intro h; unfold dist at h; omega
  · intro h; subst h; exact dist_self a
theorem dist_inj {a b c : Int} (hb : Plc b) (hc : Plc c) (h : dist a b = dist a c) : b = c := by unfold Plc at *; unfold dist at h; omega
theorem dist_injR {a b c : Int} (ha : Plc a) (hb : Plc b) (h : dist a c = dist b c) : a = b := by unfold Plc at *; unfold dist at h; omega
theorem within_iff {x a b : Int} (hx : Plc x) (ha : Plc a) (hb : Plc b) : withinB x a b = true ↔ dist a x ≠ 0 ∧ (dist a b = 0 ∨ dist a x < dist a b) := by
  have e1 := dist_zero ha hx
  have e2 := dist_zero ha hb
  simp only [withinB, Bool.and_eq_true, bne_iff_ne, Bool.or_eq_true, beq_iff_eq, decide_eq_true_eq, ne_eq, e1, e2]
  constructor
  · rintro ⟨h1, h2⟩; exact ⟨fun e => h1 e.symm, h2⟩
  · rintro ⟨h1, h2⟩; exact ⟨fun e => h1 e.symm, h2⟩
theorem within_not {x a b : Int} (hx : Plc x) (ha : Plc a) (hb : Plc b) : withinB x a b = false ↔ dist a x = 0 ∨ (dist a b ≠ 0 ∧ dist a b ≤ dist a x) := by
  have h := within_iff hx ha hb
  cases hw : withinB x a b
  · rw [hw] at h
    simp only [true_iff]
    have h2 : ¬ (dist a x ≠ 0 ∧ (dist a b = 0 ∨ dist a x < dist a b)) := fun q => by have := h.2 q; cases this
    omega
  · rw [hw] at h
    have h2 := h.1 rfl
    constructor
    · intro e; cases e
    · intro e; omega

/-- No base place lies between. -/
def NS (id : Int → Int) (a b : Int) : Prop := ∀ i, 0 ≤ i → i < 4 → withinB (id i) a b = false

section
variable {id : Int → Int} (hid : ∀ i, Plc (id i))
include hid
theorem ns_trans {a m b : Int} (ha : Plc a) (hm : Plc m) (hb : Plc b) (h1 : NS id a m) (h2 : NS id m b) (hne : ∀ i, 0 ≤ i → i < 4 → id i ≠ m) : NS id a b := by
  intro i h0 h4
  have q1 := (within_not (hid i) ha hm).1 (h1 i h0 h4)
  have q2 := (within_not (hid i) hm hb).1 (h2 i h0 h4)
  rw [within_not (hid i) ha hb]
  have z : dist m (id i) ≠ 0 := fun e => hne i h0 h4 ((dist_zero hm (hid i)).1 e).symm
  have t1 := dist_tri a m (id i)
  have t2 := dist_tri a m b
  have r1 := dist_rng a m
  have r2 := dist_rng m b
  have r3 := dist_rng a b
  have r4 := dist_rng m (id i)
  have r5 := dist_rng a (id i)
  omega
theorem ns_ne (h01 : id 0 ≠ id 1) {a b : Int} (ha : Plc a) (hb : Plc b) (h : NS id a b) : dist a b ≠ 0 := by
  intro e
  have q0 := (within_not (hid 0) ha hb).1 (h 0 (by omega) (by omega))
  have q1 := (within_not (hid 1) ha hb).1 (h 1 (by omega) (by omega))
  have z0 := (dist_zero ha (hid 0))
  have z1 := (dist_zero ha (hid 1))
  have e0 : a = id 0 := z0.1 (by omega)
  have e1 : a = id 1 := z1.1 (by omega)
  exact h01 (e0.symm.trans e1)
theorem ns_near {a b q : Int} (ha : Plc a) (hb : Plc b) (hq : Plc q) (h : NS id a b) (hw : withinB q a b = true) : NS id a q := by
  intro i h0 h4
  have q1 := (within_not (hid i) ha hb).1 (h i h0 h4)
  have q2 := (within_iff hq ha hb).1 hw
  rw [within_not (hid i) ha hq]
  omega
theorem ns_mid (h01 : id 0 ≠ id 1) {a h c : Int} (ha : Plc a) (hh : Plc h) (hc : Plc c) (hn : NS id a h) (hw : withinB c a h = true) : NS id c h := by
  intro i h0 h4
  have q1 := (within_not (hid i) ha hh).1 (hn i h0 h4)
  have q2 := (within_iff hc ha hh).1 hw
  have z := ns_ne hid h01 ha hh hn
  rw [within_not (hid i) hc hh]
  have t1 := dist_tri a c (id i)
  have t2 := dist_tri a c h
  have r1 := dist_rng a c
  have r2 := dist_rng c h
  have r3 := dist_rng a h
  have r4 := dist_rng c (id i)
  have r5 := dist_rng a (id i)
  omega
/-- Who goes on without skipping a base place comes nearer to each of them. -/
theorem toward (h01 : id 0 ≠ id 1) {c h : Int} (hc : Plc c) (hh : Plc h) (hn : NS id c h) {i : Int} (h0 : 0 ≤ i) (h4 : i < 4) (hne : c ≠ id i) : dist h (id i) < dist c (id i) ∧ dist c (id i) = dist c h + dist h (id i) := by
  have q1 := (within_not (hid i) hc hh).1 (hn i h0 h4)
  have z := ns_ne hid h01 hc hh hn
  have z1 : dist c (id i) ≠ 0 := fun e => hne ((dist_zero hc (hid i)).1 e)
  have t1 := dist_tri c h (id i)
  have r1 := dist_rng c h
  have r2 := dist_rng h (id i)
  have r3 := dist_rng c (id i)
  omega
end

/-- Between, told by the distances to a place further on. -/
theorem between_iff {y c s b : Int} (hy : Plc y) (hc : Plc c) (hs : Plc s) (hb : Plc b) (h : dist s b < dist c b) : withinB y c s = true ↔ dist s b < dist y b ∧ dist y b < dist c b := by
  rw [within_iff hy hc hs]
  have t1 := dist_tri c s b
  have t2 := dist_tri c y b
  have r1 := dist_rng c s
  have r2 := dist_rng s b
  have r3 := dist_rng c b
  have r4 := dist_rng c y
  have r5 := dist_rng y b
  constructor
  · rintro ⟨h1, h2⟩; omega
  · rintro ⟨h1, h2⟩
    constructor
    · intro e; omega
    · omega

/-- The lists' members that live go on without skipping a base place. -/
def Chain (lv : Int → Bool) (id : Int → Int) : Int → List Int → Prop
  | _, [] => True
  | a, x :: l => if lv x = true then NS id a (id x) ∧ Chain lv id (id x) l else Chain lv id a l

theorem chain_take {lv : Int → Bool} {id : Int → Int} {a : Int} {l : List Int} (h : Chain lv id a l) (k : Nat) : Chain lv id a (l.take k) := by
  induction l generalizing a k with
  | nil => simp; exact h
  | cons x l ih =>
    cases k with
    | zero => exact trivial
    | succ k =>
      simp only [List.take_succ_cons, Chain] at h ⊢
      split
      · rename_i e; rw [if_pos e] at h; exact ⟨h.1, ih h.2 k⟩
      · rename_i e; rw [if_neg e] at h; exact ih h k
theorem chain_congr {lv lv' : Int → Bool} {id id' : Int → Int} {a : Int} {l : List Int} (h : Chain lv id a l) (hb : ∀ i, 0 ≤ i → i < 4 → id' i = id i) (hm : ∀ x ∈ l, lv' x = lv x ∧ id' x = id x) : Chain lv' id' a l := by
  induction l generalizing a with
  | nil => exact trivial
  | cons x l ih =>
    have hx := hm x (by simp)
    have hn : ∀ a b, NS id a b → NS id' a b := fun a b q i h0 h4 => by rw [hb i h0 h4]; exact q i h0 h4
    simp only [Chain] at h ⊢
    rw [hx.1, hx.2]
    split
    · rename_i e; rw [if_pos e] at h; exact ⟨hn _ _ h.1, ih h.2 (fun y hy => hm y (by simp [hy]))⟩
    · rename_i e; rw [if_neg e] at h; exact ih h (fun y hy => hm y (by simp [hy]))
/-- Another beginning, from which the first one that lives is as well met. -/
theorem chain_from {lv : Int → Bool} {id : Int → Int} {a a' : Int} {l : List Int} (h : Chain lv id a l) (ha : ∀ x ∈ l, lv x = true → NS id a (id x) → NS id a' (id x)) : Chain lv id a' l := by
  induction l with
  | nil => exact trivial
  | cons x l ih =>
    simp only [Chain] at h ⊢
    split
    · rename_i e; rw [if_pos e] at h; exact ⟨ha x (by simp) e h.1, h.2⟩
    · rename_i e; rw [if_neg e] at h; exact ih h (fun y hy => ha y (by simp [hy]))
theorem chain_del {lv : Int → Bool} {id : Int → Int} (hid : ∀ i, Plc (id i)) {d a : Int} {l : List Int} (ha : Plc a) (hd : ∀ i, 0 ≤ i → i < 4 → id i ≠ id d) (h : Chain lv id a l) : Chain (fun x => if x = d then false else lv x) id a l := by
  induction l generalizing a with
  | nil => exact trivial
  | cons x l ih =>
    simp only [Chain] at h ⊢
    by_cases e : x = d
    · subst e
      simp only [if_true]
      rw [if_neg (by simp)]
      by_cases e2 : lv x = true
      · rw [if_pos e2] at h
        exact chain_from (ih (hid x) h.2) (fun y hy _ hn => ns_trans hid ha (hid x) (hid y) h.1 hn hd)
      · rw [if_neg e2] at h; exact ih ha h
    · simp only [if_neg e]
      split
      · rename_i e2; rw [if_pos e2] at h; exact ⟨h.1, ih (hid x) h.2⟩
      · rename_i e2; rw [if_neg e2] at h; exact ih ha h

/-- How many lie below a distance. -/
def rkL (L : List Int) (d : Int → Int) (v : Int) : Nat := (L.filter fun y => decide (d y < v)).length
theorem rkL_len (L : List Int) (d : Int → Int) (v : Int) : rkL L d v ≤ L.length := List.length_filter_le _ _
theorem rkL_mono (L : List Int) (d : Int → Int) {u v : Int} (h : u ≤ v) : rkL L d u ≤ rkL L d v := by
  unfold rkL
  induction L with
  | nil => simp
  | cons a L ih =>
    simp only [List.filter_cons]
    by_cases h1 : d a < u
    · have h2 : d a < v := by omega
      simp [h1, h2]; exact ih
    · by_cases h2 : d a < v
      · simp [h1, h2]; omega
      · simp [h1, h2]; exact ih
theorem rkL_lt {L : List Int} {d : Int → Int} {u v y : Int} (hy : y ∈ L) (h1 : u ≤ d y) (h2 : d y < v) : rkL L d u < rkL L d v := by
  induction L with
  | nil => cases hy
  | cons a L ih =>
    have hm := rkL_mono L d (u := u) (v := v) (by omega)
    unfold rkL at *
    simp only [List.filter_cons]
    rcases List.mem_cons.1 hy with e | hy
    · subst e
      have h3 : ¬ d y < u := by omega
      simp [h2, h3]; omega
    · have := ih hy
      by_cases h3 : d a < u
      · have h4 : d a < v := by omega
        simp [h3, h4]; exact this
      · by_cases h4 : d a < v
        · simp [h3, h4]; omega
        · simp [h3, h4]; exact this
theorem max_of (l : List Int) (d : Int → Int) (h : l ≠ []) : ∃ y ∈ l, ∀ z ∈ l, d z ≤ d y := by
  induction l with
  | nil => exact absurd rfl h
  | cons a l ih =>
    by_cases e : l = []
    · subst e; exact ⟨a, by simp, fun z hz => by simp at hz; subst hz; omega⟩
    · obtain ⟨y, hy, hm⟩ := ih e
      by_cases q : d a ≤ d y
      · exact ⟨y, by simp [hy], fun z hz => by rcases List.mem_cons.1 hz with e | hz; subst e; exact q; exact hm z hz⟩
      · exact ⟨a, by simp, fun z hz => by rcases List.mem_cons.1 hz with e | hz; subst e; omega; have := hm z hz; omega⟩
theorem min_of (l : List Int) (d : Int → Int) (h : l ≠ []) : ∃ y ∈ l, ∀ z ∈ l, d y ≤ d z := by
  obtain ⟨y, hy, hm⟩ := max_of l (fun x => - d x) h
  exact ⟨y, hy, fun z hz => by have := hm z hz; omega⟩
theorem len_split {L : List Int} {p q : Int → Bool} {y : Int} (hn : L.Nodup) (hy : y ∈ L) (h : ∀ z ∈ L, z ≠ y → p z = q z) (hp : p y = true) (hq : q y = false) : (L.filter p).length = (L.filter q).length + 1 := by
  induction L with
  | nil => cases hy
  | cons a L ih =>
    obtain ⟨h1, h2⟩ := List.nodup_cons.1 hn
    simp only [List.filter_cons]
    rcases List.mem_cons.1 hy with e | hy
    · subst e
      have e : L.filter p = L.filter q := List.filter_congr (fun z hz => h z (by simp [hz]) (fun e => h1 (by rw [← e]; exact hz)))
      simp [hp, hq, e]
    · have hne : a ≠ y := fun e => h1 (by rw [e]; exact hy)
      have := ih h2 hy (fun z hz => h z (by simp [hz]))
      rw [h a (by simp) hne]
      split
      · simp [this]
      · exact this
theorem rkL_step {L : List Int} {d : Int → Int} {v : Int} (hn : L.Nodup) (hinj : ∀ x ∈ L, ∀ y ∈ L, d x = d y → x = y) (h : rkL L d v ≠ 0) : ∃ y ∈ L, d y < v ∧ rkL L d (d y) + 1 = rkL L d v := by
  have hne : (L.filter fun y => decide (d y < v)) ≠ [] := fun e => h (by unfold rkL; rw [e]; rfl)
  obtain ⟨y, hy, hm⟩ := max_of _ d hne
  obtain ⟨hy1, hy2⟩ := List.mem_filter.1 hy
  have hy3 : d y < v := by simpa using hy2
  refine ⟨y, hy1, hy3, ?_⟩
  unfold rkL
  refine (len_split hn hy1 (fun z hz hzy => ?_) (by simpa using hy3) (by simp)).symm
  by_cases q : d z < v
  · have h1 : d z ≤ d y := hm z (List.mem_filter.2 ⟨hz, by simpa using q⟩)
    have h2 : d z ≠ d y := fun e => hzy (hinj z hz y hy1 e)
    have h3 : d z < d y := by omega
    simp [q, h3]
  · have h3 : ¬ d z < d y := by omega
    simp [q, h3]
end Go.Proofs.YtgiiadjocfnhlabGreatDoor

/- What holds of a ring always: each member has a head, no list skips a base member. No program in sight. -/
namespace Go.Proofs.YtgiiadjocfnhlabGreatDoor
set_option linter.unusedVariables false

structure Inv (R : Rg) : Prop where
  rng : ∀ n, R.lives n = true → 0 ≤ n ∧ n < 32
  base : ∀ n, 0 ≤ n → n < 4 → R.lives n = true
  pl : ∀ n, R.lives n = true → (R.pl n).isSome = true
  u : ∀ n, Plc (R.idOf n)
  id : ∀ n, R.lives n = true → (R.know n).id = R.idOf n
  inj : ∀ n m, R.lives n = true → R.lives m = true → R.idOf n = R.idOf m → n = m
  len : ∀ n, R.lives n = true → (R.know n).succ.length = 3
  mem : ∀ n, R.lives n = true → ∀ x ∈ (R.know n).succ, (R.pl x).isSome = true
  hd : ∀ n, R.lives n = true → ∃ x ∈ (R.know n).succ, R.lives x = true
  ch : ∀ n, R.lives n = true → Chain R.lives R.idOf (R.idOf n) (R.know n).succ

theorem Inv.withCl {R : Rg} (h : Inv R) (D : Nat → Prop) : Inv (R.withCl D) := ⟨h.rng, h.base, h.pl, h.u, h.id, h.inj, h.len, h.mem, h.hd, h.ch⟩
theorem Inv.lens {R : Rg} (h : Inv R) (k : Int) (p : Pe) (hk : R.kn k = some p) : p.succ.length = 3 := by
  have := h.len k (by simp [Rg.lives, hk])
  simpa [Rg.know, hk] using this
theorem Inv.lv {R : Rg} (h : Inv R) : R.lv = R.lives := by
  funext n
  unfold Rg.lv
  cases hl : R.lives n
  · simp
  · have := h.rng n hl
    have e : (n != -1) = true := by simp; omega
    rw [e]; rfl
theorem Inv.h01 {R : Rg} (h : Inv R) : R.idOf 0 ≠ R.idOf 1 := fun e => by
  have := h.inj 0 1 (h.base 0 (by omega) (by omega)) (h.base 1 (by omega) (by omega)) e
  omega
theorem headF_spec {L : Int → Bool} {l : List Int} (h : ∃ x ∈ l, L x = true) : L (headF L l) = true ∧ headF L l ∈ l := by
  induction l with
  | nil => obtain ⟨x, hx, _⟩ := h; cases hx
  | cons a l ih =>
    by_cases e : L a = true
    · simp [headF, e]
    · obtain ⟨x, hx, hl⟩ := h
      rcases List.mem_cons.1 hx with q | q
      · subst q; exact absurd hl e
      · have := ih ⟨x, q, hl⟩
        simp only [headF, e]
        exact ⟨this.1, List.mem_cons_of_mem _ this.2⟩
theorem headF_none {L : Int → Bool} {l : List Int} (h : ∀ y ∈ l, L y = false) : headF L l = -1 := by
  induction l with
  | nil => rfl
  | cons a l ih => simp only [headF, h a (by simp)]; exact ih (fun y hy => h y (by simp [hy]))
theorem chain_head {lv : Int → Bool} {id : Int → Int} {a : Int} {l : List Int} (h : Chain lv id a l) (hx : ∃ x ∈ l, lv x = true) : NS id a (id (headF lv l)) := by
  induction l with
  | nil => obtain ⟨x, hx, _⟩ := hx; cases hx
  | cons b l ih =>
    simp only [Chain, headF] at h ⊢
    by_cases e : lv b = true
    · rw [if_pos e] at h ⊢; exact h.1
    · rw [if_neg e] at h ⊢
      obtain ⟨x, hx, hl⟩ := hx
      rcases List.mem_cons.1 hx with q | q
      · subst q; exact absurd hl e
      · exact ih h ⟨x, q, hl⟩
/-- The head of a member lives, and no base place lies between. -/
theorem Inv.head {R : Rg} (h : Inv R) {n : Int} (hn : R.lives n = true) : R.lives (R.head n) = true ∧ NS R.idOf (R.idOf n) (R.idOf (R.head n)) := by
  unfold Rg.head
  rw [h.lv]
  exact ⟨(headF_spec (h.hd n hn)).1, chain_head (h.ch n hn) (h.hd n hn)⟩
theorem Inv.apart {R : Rg} (h : Inv R) {n m : Int} (hq : NS R.idOf (R.idOf n) (R.idOf m)) : m ≠ n := fun e => by
  subst e
  exact ns_ne h.u h.h01 (h.u _) (h.u _) hq (dist_self _)
/-- Whom a member takes for the next one lives, lies ahead, and is its head or nearer. -/
theorem Inv.next {R : Rg} (h : Inv R) {n : Int} (hn : R.lives n = true) :
    R.lives (R.next n) = true ∧ NS R.idOf (R.idOf n) (R.idOf (R.next n)) ∧ R.next n ≠ n ∧
    (R.next n = R.head n ∨ (R.next n = (R.know (R.head n)).pred ∧ withinB (R.idOf (R.next n)) (R.idOf n) (R.idOf (R.head n)) = true)) := by
  obtain ⟨h1, h2⟩ := h.head hn
  by_cases e : R.near (R.know (R.head n)).pred (R.know n).id (R.head n) = true
  · have hx : R.next n = (R.know (R.head n)).pred := by unfold Rg.next; rw [if_pos e]
    rw [hx]
    simp only [Rg.near, Bool.and_eq_true, h.lv, h.id n hn] at e
    have q := ns_near h.u (h.u n) (h.u _) (h.u _) h2 e.2.2
    exact ⟨e.1, q, h.apart q, .inr ⟨rfl, e.2.2⟩⟩
  · have hx : R.next n = R.head n := by unfold Rg.next; rw [if_neg e]
    rw [hx]
    exact ⟨h1, h2, h.apart h2, .inl rfl⟩
/-- Is whom the head takes for its Pred nearer, it is the next one. -/
theorem Inv.next_near {R : Rg} (h : Inv R) {n : Int} (hn : R.lives n = true) (hq : R.lives (R.know (R.head n)).pred = true) (hw : withinB (R.idOf (R.know (R.head n)).pred) (R.idOf n) (R.idOf (R.head n)) = true) : R.next n = (R.know (R.head n)).pred := by
  unfold Rg.next
  rw [if_pos]
  have := (h.rng _ (h.head hn).1).1
  simp only [Rg.near, Bool.and_eq_true, h.lv, h.id n hn]
  refine ⟨hq, ?_, hw⟩
  simp; omega

theorem know_setK (R : Rg) (n : Int) (p : Pe) (x : Int) : (R.setK n p).know x = if x = n then p else R.know x := by
  simp only [Rg.know, Rg.setK, upd]; split <;> rfl

/-- What one look does. -/
structure Stp (R R' : Rg) (n s : Int) : Prop where
  lives : ∀ x, R'.lives x = R.lives x
  pl : R'.pl = R.pl
  one : R'.know n = ⟨(R.know n).id, (R.know n).pred, s :: (R.know s).succ.take 2⟩
  two : R'.know s = ⟨(R.know s).id, R.rect (R.know s).id (R.know s).pred n, (R.know s).succ⟩
  rest : ∀ x, x ≠ n → x ≠ s → R'.know x = R.know x
theorem Inv.look {R : Rg} (h : Inv R) {n : Int} (hn : R.lives n = true) : Stp R (R.stab n) n (R.next n) := by
  obtain ⟨h1, h2, h3, h4⟩ := h.next hn
  generalize hs : R.next n = s at h1 h2 h3 h4
  have hst : R.stab n = (R.learn n s).tell s n := by unfold Rg.stab; rw [if_pos hn, hs]
  have hlv : ∀ x, (R.learn n s).lives x = R.lives x := fun x => by
    unfold Rg.learn; rw [lives_setK]
    split
    · rename_i e; rw [e, hn]
    · rfl
  have hks : (R.learn n s).know s = R.know s := by unfold Rg.learn; rw [know_setK, if_neg h3]
  have hrc : ∀ a b c, (R.learn n s).rect a b c = R.rect a b c := fun a b c => by
    unfold Rg.rect Rg.lv; rw [hlv b]; rfl
  rw [hst]
  refine ⟨fun x => ?_, rfl, ?_, ?_, fun x x1 x2 => ?_⟩
  · unfold Rg.tell; rw [lives_setK]
    split
    · rename_i e; rw [e, h1]
    · exact hlv x
  · unfold Rg.tell; rw [know_setK, if_neg (Ne.symm h3)]
    unfold Rg.learn; rw [know_setK, if_pos rfl]
  · unfold Rg.tell; rw [know_setK, if_pos rfl, hks, hrc]
  · unfold Rg.tell; rw [know_setK, if_neg x2]
    unfold Rg.learn; rw [know_setK, if_neg x1]
theorem Stp.idOf {R R' : Rg} {n s : Int} (h : Stp R R' n s) (x : Int) : R'.idOf x = R.idOf x := by unfold Rg.idOf; rw [h.pl]
theorem Stp.livesF {R R' : Rg} {n s : Int} (h : Stp R R' n s) : R'.lives = R.lives := funext h.lives
theorem Stp.idF {R R' : Rg} {n s : Int} (h : Stp R R' n s) : R'.idOf = R.idOf := funext h.idOf
theorem Stp.succ {R R' : Rg} {n s : Int} (h : Stp R R' n s) (x : Int) (hx : x ≠ n) : (R'.know x).succ = (R.know x).succ := by
  by_cases e : x = s
  · rw [e, h.two]
  · rw [h.rest x hx e]
theorem Stp.pred {R R' : Rg} {n s : Int} (h : Stp R R' n s) (x : Int) (hx : x ≠ s) : (R'.know x).pred = (R.know x).pred := by
  by_cases e : x = n
  · rw [e, h.one]
  · rw [h.rest x e hx]
theorem Stp.kid {R R' : Rg} {n s : Int} (h : Stp R R' n s) (x : Int) : (R'.know x).id = (R.know x).id := by
  by_cases e : x = n
  · rw [e, h.one]
  · by_cases e2 : x = s
    · rw [e2, h.two]
    · rw [h.rest x e e2]
theorem Inv.stp {R R' : Rg} {n s : Int} (h : Inv R) (hn : R.lives n = true) (hs : R.lives s = true) (hq : NS R.idOf (R.idOf n) (R.idOf s)) (k : Stp R R' n s) : Inv R' := by
  have hsn : s ≠ n := h.apart hq
  refine ⟨fun x hx => h.rng x (by rw [← k.lives]; exact hx), fun x h0 h4 => by rw [k.lives]; exact h.base x h0 h4, fun x hx => by rw [k.pl]; exact h.pl x (by rw [← k.lives]; exact hx), fun x => by rw [k.idOf]; exact h.u x, fun x hx => by rw [k.kid, k.idOf]; exact h.id x (by rw [← k.lives]; exact hx), fun x y hx hy e => ?_, fun x hx => ?_, fun x hx y hy => ?_, fun x hx => ?_, fun x hx => ?_⟩
  · rw [k.lives] at hx hy; rw [k.idOf, k.idOf] at e; exact h.inj x y hx hy e
  · rw [k.lives] at hx
    by_cases e : x = n
    · rw [e, k.one]; simp [h.len s hs]
    · rw [k.succ x e]; exact h.len x hx
  · rw [k.lives] at hx
    rw [k.pl]
    by_cases e : x = n
    · rw [e, k.one] at hy
      rcases List.mem_cons.1 hy with q | q
      · rw [q]; exact h.pl s hs
      · exact h.mem s hs y (List.mem_of_mem_take q)
    · rw [k.succ x e] at hy; exact h.mem x hx y hy
  · rw [k.lives] at hx
    by_cases e : x = n
    · rw [e, k.one]; exact ⟨s, by simp, by rw [k.lives]; exact hs⟩
    · rw [k.succ x e]
      obtain ⟨y, h1, h2⟩ := h.hd x hx
      exact ⟨y, h1, by rw [k.lives]; exact h2⟩
  · rw [k.lives] at hx
    rw [k.livesF, k.idF]
    by_cases e : x = n
    · rw [e, k.one]
      simp only [Chain]
      rw [if_pos hs]
      exact ⟨hq, chain_take (h.ch s hs) 2⟩
    · rw [k.succ x e]; exact h.ch x hx
theorem Inv.stab {R : Rg} (h : Inv R) (n : Int) : Inv (R.stab n) := by
  cases hn : R.lives n
  · have : R.stab n = R := by unfold Rg.stab; rw [hn]; rfl
    rw [this]; exact h
  · obtain ⟨h1, h2, _⟩ := h.next hn
    exact h.stp hn h1 h2 (h.look hn)
theorem Inv.foldS {R : Rg} (h : Inv R) (l : List Int) : Inv (l.foldl (fun R n => R.stab n) R) := by
  induction l generalizing R with
  | nil => exact h
  | cons a l ih => exact ih (h.stab a)
theorem Inv.round {R : Rg} (h : Inv R) : Inv R.round := h.foldS _
theorem Inv.fail {R : Rg} (h : Inv R) (n : Int) : Inv (R.fail n) := by
  unfold Rg.fail
  by_cases q : R.failC n = 0
  · rw [if_pos q]
    obtain ⟨hl, h4⟩ := failC_zero q
    have hnd : R.needed n = false := by
      unfold Rg.failC at q
      rw [hl] at q
      cases hx : R.needed n
      · rfl
      · rw [hx] at q; simp at q
    have hlv : (R.delK n).lives = fun x => if x = n then false else R.lives x := funext (lives_delK R n)
    have hkn : ∀ x, x ≠ n → (R.delK n).know x = R.know x := fun x hx => by simp [Rg.know, Rg.delK, upd, hx]
    have hof : ∀ x, (R.delK n).lives x = true → R.lives x = true ∧ x ≠ n := fun x hx => by
      rw [hlv] at hx
      by_cases e : x = n
      · simp [e] at hx
      · simp [e] at hx; exact ⟨hx, e⟩
    refine ⟨fun x hx => h.rng x (hof x hx).1, fun x h0 hx4 => ?_, fun x hx => h.pl x (hof x hx).1, h.u, fun x hx => by rw [hkn x (hof x hx).2]; exact h.id x (hof x hx).1, fun x y hx hy e => h.inj x y (hof x hx).1 (hof y hy).1 e, fun x hx => by rw [hkn x (hof x hx).2]; exact h.len x (hof x hx).1, fun x hx => by rw [hkn x (hof x hx).2]; exact h.mem x (hof x hx).1, fun x hx => ?_, fun x hx => ?_⟩
    · rw [lives_delK, if_neg (by omega)]; exact h.base x h0 hx4
    · obtain ⟨x1, x2⟩ := hof x hx
      rw [hkn x x2]
      have hr := h.rng x x1
      have hln : R.lone n x = false := by
        unfold Rg.needed anyF at hnd
        rw [List.any_eq_false] at hnd
        have := hnd x ((mem_live R x).2 ⟨hr.1, hr.2, x1⟩)
        simpa using this
      unfold Rg.lone at hln
      have e1 : (x != n) = true := by simpa using x2
      rw [e1] at hln
      simp only [Bool.true_and, beq_eq_false_iff_ne] at hln
      rcases head_lv (fun y => y != -1 && (y != n && R.lives y)) (R.know x).succ with hh | hh
      · exact absurd hh hln
      · have hm : headF (fun y => y != -1 && (y != n && R.lives y)) (R.know x).succ ∈ (R.know x).succ := by
          refine (headF_spec ?_).2
          apply Classical.byContradiction
          intro hno
          apply hln
          exact headF_none (fun y hy => by
            cases hq : (y != -1 && (y != n && R.lives y))
            · rfl
            · exact absurd ⟨y, hy, hq⟩ hno)
        refine ⟨_, hm, ?_⟩
        simp only [Bool.and_eq_true, bne_iff_ne] at hh
        rw [lives_delK, if_neg hh.2.1]; exact hh.2.2
    · obtain ⟨x1, x2⟩ := hof x hx
      rw [hkn x x2, hlv]
      refine chain_del h.u (h.u x) (fun i h0 hi4 e => ?_) (h.ch x x1)
      have := h.inj i n (h.base i h0 hi4) hl e
      omega
  · rw [if_neg q]; exact h

theorem live_nodup (R : Rg) (k : Nat) : (R.liveTo k).Nodup := by
  induction k with
  | zero => exact List.nodup_nil
  | succ k ih =>
    unfold Rg.liveTo
    split
    · rw [List.nodup_append]
      refine ⟨ih, by simp, fun a ha b hb => ?_⟩
      simp at hb
      have := (mem_liveTo R k a).1 ha
      omega
    · exact ih
theorem Inv.in_live {R : Rg} (h : Inv R) {n : Int} (hn : R.lives n = true) : n ∈ R.live := by
  have := h.rng n hn
  exact (mem_live R n).2 ⟨this.1, this.2, hn⟩
theorem not_taken {R : Rg} {id : Int} (h : R.taken id = false) {n : Int} (hn : n ∈ R.live) : R.idOf n ≠ id := fun e => by
  unfold Rg.taken anyF at h
  rw [List.any_eq_false] at h
  have := h n hn
  simp [e] at this
/-- Who is looked for is found. -/
theorem Inv.ahead_spec {R : Rg} (h : Inv R) {id : Int} (hid : Plc id) (ht : R.taken id = false) (k : Nat) {x : Int} (hx : R.lives x = true) (hk : rkL R.live (fun y => dist (R.idOf y) id) (dist (R.idOf x) id) < k) :
    R.lives (R.aheadF id k x) = true ∧ withinB id (R.idOf (R.aheadF id k x)) (R.idOf (R.head (R.aheadF id k x))) = true := by
  induction k generalizing x with
  | zero => omega
  | succ k ih =>
    unfold Rg.aheadF
    by_cases hw : withinB id (R.idOf x) (R.idOf (R.head x)) = true
    · rw [if_pos hw]; exact ⟨hx, hw⟩
    · rw [if_neg hw]
      obtain ⟨h1, h2⟩ := h.head hx
      refine ih h1 ?_
      have hw' : withinB id (R.idOf x) (R.idOf (R.head x)) = false := by simpa using hw
      have q := (within_not hid (h.u x) (h.u (R.head x))).1 hw'
      have z := ns_ne h.u h.h01 (h.u _) (h.u _) h2
      have z1 : dist (R.idOf x) id ≠ 0 := fun e => not_taken ht (h.in_live hx) ((dist_zero (h.u x) hid).1 e)
      have t1 := dist_tri (R.idOf x) (R.idOf (R.head x)) id
      have r1 := dist_rng (R.idOf x) (R.idOf (R.head x))
      have r2 := dist_rng (R.idOf (R.head x)) id
      have r3 := dist_rng (R.idOf x) id
      have := rkL_lt (L := R.live) (d := fun y => dist (R.idOf y) id) (u := dist (R.idOf (R.head x)) id) (v := dist (R.idOf x) id) (y := R.head x) (h.in_live h1) (Int.le_refl _) (by show dist (R.idOf (R.head x)) id < dist (R.idOf x) id; omega)
      omega
theorem Inv.ahead {R : Rg} (h : Inv R) {id via : Int} (hid : Plc id) (ht : R.taken id = false) (hv : R.lives via = true) :
    R.lives (R.ahead id via) = true ∧ withinB id (R.idOf (R.ahead id via)) (R.idOf (R.head (R.ahead id via))) = true := by
  refine h.ahead_spec hid ht 33 hv ?_
  have h1 := rkL_len R.live (fun y => dist (R.idOf y) id) (dist (R.idOf via) id)
  have h2 : R.live.length ≤ 32 := liveTo_len R 32
  omega
/-- Join is never refused for want of one to hang on. -/
theorem Inv.not_busy {R : Rg} (h : Inv R) {n id via : Int} (hid : Plc id) : R.joinC n id via ≠ 5 := by
  unfold Rg.joinC
  split
  · omega
  · split
    · omega
    · split
      · omega
      · rename_i hv
        split
        · omega
        · rename_i ht
          have := h.ahead (id := id) (via := via) hid (by simpa using ht) (by simpa using hv)
          have := (h.rng _ this.1).1
          rw [if_neg (by omega)]; omega
theorem Inv.join_at {R : Rg} (h : Inv R) {n id via : Int} (hid : Plc id) (hc : R.joinC n id via = 0) : R.lives (R.ahead id via) = true ∧ withinB id (R.idOf (R.ahead id via)) (R.idOf (R.head (R.ahead id via))) = true ∧ R.taken id = false ∧ 4 ≤ n ∧ n < 32 ∧ R.pl n = none := by
  obtain ⟨h0, h1, h2⟩ := joinC_zero hc
  unfold Rg.joinC at hc
  rw [if_neg (by omega), h2] at hc
  cases hv : R.lives via
  · rw [hv] at hc; simp at hc
  · rw [hv] at hc
    cases ht : R.taken id
    · have q := h.ahead (via := via) hid ht hv
      refine ⟨q.1, q.2, rfl, ?_, h1, h2⟩
      apply Classical.byContradiction
      intro hn
      have := h.pl n (h.base n h0 (by omega))
      rw [h2] at this; cases this
    · rw [ht] at hc; simp at hc
theorem Inv.joined {R : Rg} (h : Inv R) {n id y : Int} (hid : Plc id) (hy : R.lives y = true) (hw : withinB id (R.idOf y) (R.idOf (R.head y)) = true) (ht : R.taken id = false) (h4 : 4 ≤ n) (h32 : n < 32) (hp : R.pl n = none) : Inv (R.joined n id y) := by
  have hlv : ∀ x, (R.joined n id y).lives x = if x = n then true else R.lives x := lives_joined R n id y
  have hkn : ∀ x, (R.joined n id y).know x = if x = n then ⟨id, y, (R.know y).succ⟩ else R.know x := fun x => by unfold Rg.joined; rw [know_setK]; rfl
  have hio : ∀ x, (R.joined n id y).idOf x = if x = n then id else R.idOf x := fun x => by
    unfold Rg.idOf; rw [pl_joined]; split <;> rfl
  have hnp : ∀ x, (R.pl x).isSome = true → x ≠ n := fun x hx e => by rw [e, hp] at hx; cases hx
  have hof : ∀ x, (R.joined n id y).lives x = true → x = n ∨ (x ≠ n ∧ R.lives x = true) := fun x hx => by
    rw [hlv] at hx
    by_cases e : x = n
    · exact .inl e
    · rw [if_neg e] at hx; exact .inr ⟨e, hx⟩
  have hnt := fun x (hx : R.lives x = true) => not_taken ht (h.in_live hx)
  refine ⟨fun x hx => ?_, fun x h0 hx4 => ?_, fun x hx => ?_, fun x => ?_, fun x hx => ?_, fun a b ha hb e => ?_, fun x hx => ?_, fun x hx z hz => ?_, fun x hx => ?_, fun x hx => ?_⟩
  · rcases hof x hx with e | ⟨_, e⟩
    · omega
    · exact h.rng x e
  · rw [hlv]; split
    · rfl
    · exact h.base x h0 hx4
  · rw [pl_joined]; split
    · rfl
    · rename_i e
      rcases hof x hx with e2 | ⟨_, e2⟩
      · exact absurd e2 e
      · exact h.pl x e2
  · rw [hio]; split
    · exact hid
    · exact h.u x
  · rw [hkn, hio]; split
    · rfl
    · rename_i e
      rcases hof x hx with e2 | ⟨_, e2⟩
      · exact absurd e2 e
      · exact h.id x e2
  · rw [hio, hio] at e
    rcases hof a ha with e1 | ⟨n1, e1⟩
    · rcases hof b hb with e2 | ⟨n2, e2⟩
      · rw [e1, e2]
      · rw [if_pos e1, if_neg n2] at e; exact absurd e.symm (hnt b e2)
    · rcases hof b hb with e2 | ⟨n2, e2⟩
      · rw [if_neg n1, if_pos e2] at e; exact absurd e (hnt a e1)
      · rw [if_neg n1, if_neg n2] at e; exact h.inj a b e1 e2 e
  · rw [hkn]; split
    · exact h.len y hy
    · rename_i e
      rcases hof x hx with e2 | ⟨_, e2⟩
      · exact absurd e2 e
      · exact h.len x e2
  · have hz' : (R.pl z).isSome = true := by
      rw [hkn] at hz
      split at hz
      · exact h.mem y hy z hz
      · rename_i e
        rcases hof x hx with e2 | ⟨_, e2⟩
        · exact absurd e2 e
        · exact h.mem x e2 z hz
    rw [pl_joined]; split
    · rfl
    · exact hz'
  · rw [hkn]
    have key : ∀ v, R.lives v = true → ∃ z ∈ (R.know v).succ, (R.joined n id y).lives z = true := fun v hv => by
      obtain ⟨z, h1, h2⟩ := h.hd v hv
      exact ⟨z, h1, by rw [hlv, if_neg (hnp z (h.mem v hv z h1))]; exact h2⟩
    split
    · exact key y hy
    · rename_i e
      rcases hof x hx with e2 | ⟨_, e2⟩
      · exact absurd e2 e
      · exact key x e2
  · have hb : ∀ i, 0 ≤ i → i < 4 → (R.joined n id y).idOf i = R.idOf i := fun i _ h4' => by rw [hio, if_neg (by omega)]
    have hm : ∀ v, R.lives v = true → ∀ z ∈ (R.know v).succ, (R.joined n id y).lives z = R.lives z ∧ (R.joined n id y).idOf z = R.idOf z := fun v hv z hz => by
      have := hnp z (h.mem v hv z hz)
      rw [hlv, hio, if_neg this, if_neg this]; exact ⟨rfl, rfl⟩
    rw [hkn, hio]
    split
    · refine chain_congr ?_ hb (hm y hy)
      have hh := h.ch y hy
      have hd := h.hd y hy
      have hhead : R.head y = headF R.lives (R.know y).succ := by unfold Rg.head; rw [h.lv]
      rw [hhead] at hw
      clear hhead
      generalize (R.know y).succ = l at hh hd hw
      induction l with
      | nil => exact trivial
      | cons b l ih =>
        simp only [Chain, headF] at hh hw ⊢
        by_cases e : R.lives b = true
        · rw [if_pos e] at hh hw ⊢
          exact ⟨ns_mid h.u h.h01 (h.u y) (h.u b) hid hh.1 hw, hh.2⟩
        · rw [if_neg e] at hh hw ⊢
          obtain ⟨z, hz, hl⟩ := hd
          rcases List.mem_cons.1 hz with q | q
          · subst q; exact absurd hl e
          · exact ih hh ⟨z, q, hl⟩ hw
    · rename_i e
      rcases hof x hx with e2 | ⟨_, e2⟩
      · exact absurd e2 e
      · exact chain_congr (h.ch x e2) hb (hm x e2)
theorem Inv.join {R : Rg} (h : Inv R) (n id via : Int) (hid : Plc id) : Inv (R.join n id via) := by
  unfold Rg.join
  by_cases hc : R.joinC n id via = 0
  · rw [if_pos hc]
    obtain ⟨h1, h2, h3, h4, h5, h6⟩ := h.join_at hid hc
    exact h.joined hid h1 h2 h3 h4 h5 h6
  · rw [if_neg hc]; exact h
end Go.Proofs.YtgiiadjocfnhlabGreatDoor

/- A ring in the calm: so many rounds later each member knows what it should. No program in sight. -/
namespace Go.Proofs.YtgiiadjocfnhlabGreatDoor
set_option linter.unusedVariables false

/-- How many lie nearer ahead of b. -/
def Rg.rk (R : Rg) (b x : Int) : Nat := rkL R.live (fun y => dist (R.idOf y) (R.idOf b)) (dist (R.idOf x) (R.idOf b))
/-- Nobody that lives lies between. -/
def Adj (R : Rg) (c s : Int) : Prop := R.lives c = true ∧ R.lives s = true ∧ c ≠ s ∧ ∀ y, R.lives y = true → withinB (R.idOf y) (R.idOf c) (R.idOf s) = false

theorem Inv.lt_rk {R : Rg} (h : Inv R) {b x y : Int} (hd : R.rk b x < R.rk b y) : dist (R.idOf x) (R.idOf b) < dist (R.idOf y) (R.idOf b) := by
  apply Classical.byContradiction
  intro hn
  have := rkL_mono R.live (fun y => dist (R.idOf y) (R.idOf b)) (u := dist (R.idOf y) (R.idOf b)) (v := dist (R.idOf x) (R.idOf b)) (by omega)
  unfold Rg.rk at hd
  omega
theorem Inv.rk_le {R : Rg} (h : Inv R) (b x : Int) : R.rk b x ≤ R.live.length := rkL_len _ _ _
section
variable {R : Rg} (h : Inv R)
include h
theorem Inv.rk_lt {b x y : Int} (hx : R.lives x = true) (hd : dist (R.idOf x) (R.idOf b) < dist (R.idOf y) (R.idOf b)) : R.rk b x < R.rk b y :=
  rkL_lt (d := fun y => dist (R.idOf y) (R.idOf b)) (h.in_live hx) (Int.le_refl _) hd
theorem Inv.rk_eq {b x y : Int} (hx : R.lives x = true) (hy : R.lives y = true) (he : R.rk b x = R.rk b y) : x = y := by
  have h1 := h.rk_lt (b := b) (x := x) (y := y) hx
  have h2 := h.rk_lt (b := b) (x := y) (y := x) hy
  have e : dist (R.idOf x) (R.idOf b) = dist (R.idOf y) (R.idOf b) := by
    rcases Int.lt_trichotomy (dist (R.idOf x) (R.idOf b)) (dist (R.idOf y) (R.idOf b)) with q | q | q
    · have := h1 q; omega
    · exact q
    · have := h2 q; omega
  exact h.inj x y hx hy (dist_injR (h.u x) (h.u y) e)
theorem Inv.rk_pos {b x : Int} (hb : R.lives b = true) (hx : R.lives x = true) (hne : x ≠ b) : 0 < R.rk b x := by
  have h0 : dist (R.idOf b) (R.idOf b) = 0 := dist_self _
  have r := dist_rng (R.idOf x) (R.idOf b)
  have h1 : dist (R.idOf x) (R.idOf b) ≠ 0 := fun e => hne (h.inj x b hx hb ((dist_zero (h.u x) (h.u b)).1 e))
  have := h.rk_lt (b := b) (x := b) (y := x) hb (by omega)
  omega
theorem Inv.rk_step {b x : Int} (hp : R.rk b x ≠ 0) : ∃ y, R.lives y = true ∧ R.rk b y + 1 = R.rk b x := by
  obtain ⟨y, hy, _, he⟩ := rkL_step (live_nodup R 32) (fun x hx y hy e => h.inj x y ((mem_live R x).1 hx).2.2 ((mem_live R y).1 hy).2.2 (dist_injR (h.u x) (h.u y) e)) hp
  exact ⟨y, ((mem_live R y).1 hy).2.2, he⟩
theorem Inv.rk_exists {b : Int} (k : Nat) : ∀ (m : Nat) (x : Int), R.lives x = true → R.rk b x = k + m → ∃ y, R.lives y = true ∧ R.rk b y = k := by
  intro m
  induction m with
  | zero => intro x hx e; exact ⟨x, hx, e⟩
  | succ m ih =>
    intro x hx e
    obtain ⟨y, hy, he⟩ := h.rk_step (b := b) (x := x) (by omega)
    exact ih y hy (by omega)
theorem Inv.rk_within {b c s y : Int} (hc : R.lives c = true) (hs : R.lives s = true) (hy : R.lives y = true) (hr : R.rk b s < R.rk b c) : withinB (R.idOf y) (R.idOf c) (R.idOf s) = true ↔ R.rk b s < R.rk b y ∧ R.rk b y < R.rk b c := by
  rw [between_iff (h.u y) (h.u c) (h.u s) (h.u b) (h.lt_rk hr)]
  exact ⟨fun q => ⟨h.rk_lt hs q.1, h.rk_lt hy q.2⟩, fun q => ⟨h.lt_rk q.1, h.lt_rk q.2⟩⟩
theorem Inv.adj_rk {b c s : Int} (hc : R.lives c = true) (hs : R.lives s = true) (hr : R.rk b s + 1 = R.rk b c) : Adj R c s := by
  refine ⟨hc, hs, fun e => by subst e; omega, fun y hy => ?_⟩
  cases hw : withinB (R.idOf y) (R.idOf c) (R.idOf s)
  · rfl
  · have := (h.rk_within (b := b) hc hs hy (by omega)).1 hw
    omega
theorem Inv.adj_uniq {c s t : Int} (h1 : Adj R c s) (h2 : Adj R c t) : s = t := by
  obtain ⟨hc, hs, n1, w1⟩ := h1
  obtain ⟨_, ht, n2, w2⟩ := h2
  have q1 := (within_not (h.u t) (h.u c) (h.u s)).1 (w1 t ht)
  have q2 := (within_not (h.u s) (h.u c) (h.u t)).1 (w2 s hs)
  have z1 : dist (R.idOf c) (R.idOf s) ≠ 0 := fun e => n1 (h.inj c s hc hs ((dist_zero (h.u c) (h.u s)).1 e))
  have z2 : dist (R.idOf c) (R.idOf t) ≠ 0 := fun e => n2 (h.inj c t hc ht ((dist_zero (h.u c) (h.u t)).1 e))
  have e : dist (R.idOf c) (R.idOf s) = dist (R.idOf c) (R.idOf t) := by omega
  exact h.inj s t hs ht (dist_inj (h.u s) (h.u t) e)
/-- From c to s nobody lies: whoever else lives, c is met on the way from there to s. -/
theorem Inv.adj_back {c s p : Int} (ha : Adj R c s) (hp : R.lives p = true) (hne : p ≠ c) : withinB (R.idOf c) (R.idOf p) (R.idOf s) = true := by
  obtain ⟨hc, hs, n1, w1⟩ := ha
  have n1' : R.idOf c ≠ R.idOf s := fun e => n1 (h.inj c s hc hs e)
  have n2' : R.idOf p ≠ R.idOf c := fun e => hne (h.inj p c hp hc e)
  by_cases e : p = s
  · subst e
    rw [within_iff (h.u c) (h.u p) (h.u p)]
    exact ⟨fun e => n2' ((dist_zero (h.u p) (h.u c)).1 e), .inl (dist_self _)⟩
  · have n3' : R.idOf p ≠ R.idOf s := fun q => e (h.inj p s hp hs q)
    have uc := h.u c
    have us := h.u s
    have up := h.u p
    unfold Plc at uc us up
    have := w1 p hp
    rw [round_turn (R.idOf p) (R.idOf c) (R.idOf s) up uc us n2' (Ne.symm n3') (Ne.symm n1'), round_not (R.idOf c) (R.idOf s) (R.idOf p) uc us up n1' n2' n3', this]
    rfl
theorem Inv.toward_rk {b c : Int} (h0 : 0 ≤ b) (h4 : b < 4) (hc : R.lives c = true) (hne : c ≠ b) : R.rk b (R.head c) < R.rk b c := by
  obtain ⟨h1, h2⟩ := h.head hc
  exact h.rk_lt h1 (toward h.u h.h01 (h.u c) (h.u _) h2 h0 h4 (fun e => hne (h.inj c b hc (h.base b h0 h4) e))).1
end

theorem Stp.live {R R' : Rg} {n s : Int} (k : Stp R R' n s) : R'.live = R.live := Alike.live ⟨fun n _ => k.lives n, k.pl⟩
theorem Stp.rk {R R' : Rg} {n s : Int} (k : Stp R R' n s) (b x : Int) : R'.rk b x = R.rk b x := by unfold Rg.rk; rw [k.live, k.idF]
theorem Stp.adj {R R' : Rg} {n s : Int} (k : Stp R R' n s) (c t : Int) : Adj R' c t ↔ Adj R c t := by unfold Adj; rw [k.livesF, k.idF]
theorem Stp.lv {R R' : Rg} {n s : Int} (k : Stp R R' n s) : R'.lv = R.lv := by funext x; unfold Rg.lv; rw [k.lives]
theorem Stp.head {R R' : Rg} {n s : Int} (k : Stp R R' n s) (x : Int) (hx : x ≠ n) : R'.head x = R.head x := by unfold Rg.head; rw [k.lv, k.succ x hx]
theorem Stp.head1 {R R' : Rg} {n s : Int} (h : Inv R) (k : Stp R R' n s) (hs : R.lives s = true) : R'.head n = s := by
  unfold Rg.head; rw [k.lv, k.one, h.lv]; simp [headF, hs]

/-- A member's head is the next one, or behind so many. -/
def Am (j : Nat) (b c : Int) (R : Rg) : Prop := R.rk b c ≤ R.rk b (R.head c) + 1 ∨ j ≤ R.rk b (R.head c)
/-- Whom a member that is the next one takes for its Pred. -/
def Bm (b c : Int) (R : Rg) : Prop := ∀ s, R.lives s = true → R.rk b s + 1 = R.rk b c → (R.know s).pred = c

theorem stab_dead {R : Rg} {n : Int} (h : R.lives n = false) : R.stab n = R := by unfold Rg.stab; rw [h]; rfl
theorem Am.stab {R : Rg} (h : Inv R) {j : Nat} {b c : Int} (h0 : 0 ≤ b) (h4 : b < 4) (hc : R.lives c = true) (hne : c ≠ b) (ha : Am j b c R) (n : Int) : Am j b c (R.stab n) := by
  cases hn : R.lives n
  · rw [stab_dead hn]; exact ha
  · have k := h.look hn
    obtain ⟨h1, h2, h3, hx⟩ := h.next hn
    unfold Am at *
    by_cases e : c = n
    · subst e
      rw [k.rk, k.rk, k.head1 h h1]
      rcases hx with hx | ⟨_, hx⟩
      · rw [hx]; exact ha
      · have := (h.rk_within (b := b) hc (h.head hc).1 h1 (h.toward_rk h0 h4 hc hne)).1 hx
        omega
    · rw [k.rk, k.rk, k.head c e]; exact ha
theorem rect_keep {R : Rg} (h : Inv R) {c s n : Int} (ha : Adj R c s) (hn : R.lives n = true) : R.rect (R.know s).id c n = c := by
  apply rectF_no
  · rw [h.lv]; exact ha.1
  · rw [h.id s ha.2.1, ha.2.2.2 n hn]; simp
theorem pred_stab {R : Rg} (h : Inv R) {c s : Int} (ha : Adj R c s) (hp : (R.know s).pred = c) (n : Int) : ((R.stab n).know s).pred = c := by
  cases hn : R.lives n
  · rw [stab_dead hn]; exact hp
  · have k := h.look hn
    by_cases e : s = R.next n
    · have := k.two
      rw [← e] at this
      rw [this, hp]
      exact rect_keep h ha hn
    · rw [k.pred s e]; exact hp
theorem lives_stab {R : Rg} (h : Inv R) (n x : Int) : (R.stab n).lives x = R.lives x := by
  cases hn : R.lives n
  · rw [stab_dead hn]
  · exact (h.look hn).lives x
theorem rk_stab {R : Rg} (h : Inv R) (n b x : Int) : (R.stab n).rk b x = R.rk b x := by
  cases hn : R.lives n
  · rw [stab_dead hn]
  · exact (h.look hn).rk b x
theorem adj_stab {R : Rg} (h : Inv R) (n c s : Int) : Adj (R.stab n) c s ↔ Adj R c s := by
  cases hn : R.lives n
  · rw [stab_dead hn]
  · exact (h.look hn).adj c s
theorem Bm.stab {R : Rg} (h : Inv R) {b c : Int} (hc : R.lives c = true) (hb : Bm b c R) (n : Int) : Bm b c (R.stab n) := by
  intro s hs hr
  rw [lives_stab h] at hs
  rw [rk_stab h, rk_stab h] at hr
  exact pred_stab h (h.adj_rk hc hs hr) (hb s hs hr) n

/-- What a round gives: what each look keeps, and what a member's own look gives. -/
theorem fold_gets (P : Rg → Prop) (Q : Int → Rg → Prop) (hP : ∀ R n, P R → P (R.stab n)) (hl : ∀ R, P R → Inv R) (h1 : ∀ R c, P R → R.lives c = true → Q c (R.stab c)) (h2 : ∀ R c n, P R → R.lives c = true → Q c R → Q c (R.stab n)) :
    ∀ (l : List Int) (R : Rg), P R → (∀ c ∈ l, R.lives c = true) → P (l.foldl (fun R n => R.stab n) R) ∧ (∀ c, R.lives c = true → (c ∈ l ∨ Q c R) → Q c (l.foldl (fun R n => R.stab n) R)) := by
  intro l
  induction l with
  | nil => intro R hR _; exact ⟨hR, fun c _ hc => by rcases hc with q | q; cases q; exact q⟩
  | cons a l ih =>
    intro R hR hm
    have hi := hl R hR
    obtain ⟨i1, i2⟩ := ih (R.stab a) (hP R a hR) (fun c hc => by rw [lives_stab hi]; exact hm c (by simp [hc]))
    refine ⟨i1, fun c hc hq => i2 c (by rw [lives_stab hi]; exact hc) ?_⟩
    rcases hq with q | q
    · rcases List.mem_cons.1 q with e | q
      · subst e; exact .inr (h1 R c hR hc)
      · exact .inl q
    · exact .inr (h2 R c a hR hc q)
theorem round_gets (P : Rg → Prop) (Q : Int → Rg → Prop) (hP : ∀ R n, P R → P (R.stab n)) (hl : ∀ R, P R → Inv R) (h1 : ∀ R c, P R → R.lives c = true → Q c (R.stab c)) (h2 : ∀ R c n, P R → R.lives c = true → Q c R → Q c (R.stab n)) {R : Rg} (hR : P R) : P R.round ∧ ∀ c, R.lives c = true → Q c R.round := by
  obtain ⟨i1, i2⟩ := fold_gets P Q hP hl h1 h2 R.live R hR (fun c hc => ((mem_live R c).1 hc).2.2)
  exact ⟨i1, fun c hc => i2 c hc (.inl ((hl R hR).in_live hc))⟩
theorem lives_round {R : Rg} (h : Inv R) (x : Int) : R.round.lives x = R.lives x := by
  have : ∀ (l : List Int) (R : Rg), Inv R → (l.foldl (fun R n => R.stab n) R).lives x = R.lives x := by
    intro l
    induction l with
    | nil => intro R _; rfl
    | cons a l ih => intro R h; exact (ih (R.stab a) (h.stab a)).trans (lives_stab h a x)
  exact this _ R h
theorem rk_round {R : Rg} (h : Inv R) (b x : Int) : R.round.rk b x = R.rk b x := by
  have : ∀ (l : List Int) (R : Rg), Inv R → (l.foldl (fun R n => R.stab n) R).rk b x = R.rk b x := by
    intro l
    induction l with
    | nil => intro R _; rfl
    | cons a l ih => intro R h; exact (ih (R.stab a) (h.stab a)).trans (rk_stab h a b x)
  exact this _ R h

/-- So far, all is right. -/
def Far (b : Int) (k j : Nat) (R : Rg) : Prop := Inv R ∧ (∀ c, R.lives c = true → c ≠ b → Am k b c R) ∧ (∀ c, R.lives c = true → R.rk b c ≤ j → Bm b c R)
theorem Far.stab {b : Int} (h0 : 0 ≤ b) (h4 : b < 4) {k j : Nat} {R : Rg} (h : Far b k j R) (n : Int) : Far b k j (R.stab n) := by
  obtain ⟨hi, ha, hb⟩ := h
  refine ⟨hi.stab n, fun c hc hne => ?_, fun c hc hk => ?_⟩
  · rw [lives_stab hi] at hc; exact (ha c hc hne).stab hi h0 h4 hc hne n
  · rw [lives_stab hi] at hc; rw [rk_stab hi] at hk; exact (hb c hc hk).stab hi hc n
theorem Far.odd {b : Int} (h0 : 0 ≤ b) (h4 : b < 4) {k : Nat} {R : Rg} (h : Far b k k R) : Far b k (k + 1) R.round := by
  have hi := h.1
  obtain ⟨p, q⟩ := round_gets (Far b k k) (fun c R => R.rk b c = k + 1 → Bm b c R) (fun R n hR => hR.stab h0 h4 n) (fun R hR => hR.1)
    (fun R c hR hc hk s hs hr => by
      have hi := hR.1
      rw [rk_stab hi] at hk
      rw [lives_stab hi] at hs
      rw [rk_stab hi, rk_stab hi] at hr
      have hne : c ≠ b := fun e => by
        subst e
        have h1 := hi.lt_rk (b := c) (x := s) (y := c) (by omega)
        have h2 : dist (R.idOf c) (R.idOf c) = 0 := dist_self _
        have h3 := dist_rng (R.idOf s) (R.idOf c)
        omega
      have adj := hi.adj_rk hc hs hr
      have hh := hi.head hc
      have ht := hi.toward_rk h0 h4 hc hne
      have hA := hR.2.1 c hc hne
      unfold Am at hA
      have e1 : R.head c = s := hi.rk_eq (b := b) hh.1 hs (by omega)
      obtain ⟨n1, n2, n3, n4⟩ := hi.next hc
      have e2 : R.next c = s := by
        rcases n4 with q | ⟨_, q⟩
        · exact q.trans e1
        · rw [e1, adj.2.2.2 _ n1] at q; cases q
      have k := hi.look hc
      rw [e2] at k
      rw [k.two]
      show R.rect (R.know s).id (R.know s).pred c = c
      by_cases ep : (R.know s).pred = c
      · rw [ep]; exact rect_keep hi adj hc
      · cases hl : R.lives (R.know s).pred
        · exact rectF_dead (by rw [hi.lv]; exact hl)
        · apply rectF_in
          rw [hi.id s hs, hi.adj_back adj hl ep]
          have := (hi.rng c hc).1
          simp; omega)
    (fun R c n hR hc hQ hk => by
      rw [rk_stab hR.1] at hk
      exact (hQ hk).stab hR.1 hc n) h
  refine ⟨p.1, p.2.1, fun c hc hk => ?_⟩
  by_cases e : R.round.rk b c ≤ k
  · exact p.2.2 c hc e
  · rw [lives_round hi] at hc
    exact q c hc (by omega)
theorem Far.even {b : Int} (h0 : 0 ≤ b) (h4 : b < 4) {k : Nat} {R : Rg} (h : Far b k (k + 1) R) : Far b (k + 1) (k + 1) R.round := by
  have hi := h.1
  obtain ⟨p, q⟩ := round_gets (Far b k (k + 1)) (fun c R => c ≠ b → Am (k + 1) b c R) (fun R n hR => hR.stab h0 h4 n) (fun R hR => hR.1)
    (fun R c hR hc hne => by
      have hi := hR.1
      have hA := hR.2.1 c hc hne
      by_cases hd : Am (k + 1) b c R
      · exact hd.stab hi h0 h4 hc hne c
      · have hh := hi.head hc
        have ht := hi.toward_rk h0 h4 hc hne
        unfold Am at hA hd
        obtain ⟨z, hz, hzk⟩ := hi.rk_exists (b := b) (k + 1) (R.rk b c - (k + 1)) c hc (by omega)
        have hp : (R.know (R.head c)).pred = z := hR.2.2 z hz (by omega) (R.head c) hh.1 (by omega)
        have hw : withinB (R.idOf z) (R.idOf c) (R.idOf (R.head c)) = true := (hi.rk_within (b := b) hc hh.1 hz ht).2 ⟨by omega, by omega⟩
        have e2 : R.next c = z := by
          rw [← hp] at hz hw
          rw [hi.next_near hc hz hw, hp]
        have k' := hi.look hc
        rw [e2] at k'
        right
        rw [k'.head1 hi hz, k'.rk, hzk]
        exact Nat.le_refl _)
    (fun R c n hR hc hQ hne => (hQ hne).stab hR.1 h0 h4 hc hne n) h
  refine ⟨p.1, fun c hc hne => ?_, p.2.2⟩
  rw [lives_round hi] at hc
  exact q c hc hne

def Rg.rounds (R : Rg) : Nat → Rg
  | 0 => R
  | k + 1 => (R.rounds k).round
theorem Inv.rounds {R : Rg} (h : Inv R) (k : Nat) : Inv (R.rounds k) := by
  induction k with
  | zero => exact h
  | succ k ih => exact ih.round
theorem lives_rounds {R : Rg} (h : Inv R) (k : Nat) (x : Int) : (R.rounds k).lives x = R.lives x := by
  induction k with
  | zero => rfl
  | succ k ih => exact (lives_round (h.rounds k) x).trans ih
theorem alike_rounds (R : Rg) (k : Nat) : Alike R (R.rounds k) := by
  induction k with
  | zero => exact Alike.refl R
  | succ k ih => exact ih.trans (round_alike _)
theorem Far.rounds {b : Int} (h0 : 0 ≤ b) (h4 : b < 4) {R : Rg} (h : Inv R) (k : Nat) : Far b k k (R.rounds (2 * k)) := by
  induction k with
  | zero =>
    refine ⟨h, fun c hc hne => .inr (Nat.zero_le _), fun c hc hk s hs hr => ?_⟩
    have : R.rk b c ≤ 0 := hk
    have : R.rk b s + 1 = R.rk b c := hr
    omega
  | succ k ih => exact (ih.odd h0 h4).even h0 h4
/-- More rounds undo nothing. -/
theorem Far.round {b : Int} (h0 : 0 ≤ b) (h4 : b < 4) {k j : Nat} {R : Rg} (h : Far b k j R) : Far b k j R.round :=
  (round_gets (Far b k j) (fun _ _ => True) (fun R n hR => hR.stab h0 h4 n) (fun R hR => hR.1) (fun _ _ _ _ => trivial) (fun _ _ _ _ _ _ => trivial) h).1

/-- Each head and each Pred is the next one. -/
def Hds (R : Rg) : Prop := ∀ c s, Adj R c s → R.head c = s ∧ (R.know s).pred = c
theorem hds_of {R : Rg} (f0 : Far 0 R.live.length R.live.length R) (f1 : Far 1 R.live.length R.live.length R) : Hds R := by
  have key : ∀ b, 0 ≤ b → b < 4 → Far b R.live.length R.live.length R → ∀ c s, c ≠ b → Adj R c s → R.head c = s ∧ (R.know s).pred = c := by
    intro b h0 h4 f c s hne ha
    have hi := f.1
    have hc := ha.1
    have hp := hi.rk_pos (b := b) (hi.base b h0 h4) hc hne
    obtain ⟨y, hy, hr⟩ := hi.rk_step (b := b) (x := c) (by omega)
    have e : y = s := hi.adj_uniq (hi.adj_rk hc hy hr) ha
    subst e
    have hA := f.2.1 c hc hne
    have ht := hi.toward_rk h0 h4 hc hne
    have hl := hi.rk_le b c
    unfold Am at hA
    exact ⟨hi.rk_eq (b := b) (hi.head hc).1 hy (by omega), f.2.2 c hc hl y hy hr⟩
  intro c s ha
  by_cases e : c = 0
  · exact key 1 (by omega) (by omega) f1 c s (by omega) ha
  · exact key 0 (by omega) (by omega) f0 c s e ha
theorem Inv.adj_exists {R : Rg} (h : Inv R) {c : Int} (hc : R.lives c = true) : ∃ s, Adj R c s := by
  have key : ∀ b, 0 ≤ b → b < 4 → c ≠ b → ∃ s, Adj R c s := by
    intro b h0 h4 hne
    have hp := h.rk_pos (b := b) (h.base b h0 h4) hc hne
    obtain ⟨y, hy, hr⟩ := h.rk_step (b := b) (x := c) (by omega)
    exact ⟨y, h.adj_rk hc hy hr⟩
  by_cases e : c = 0
  · exact key 1 (by omega) (by omega) (by omega)
  · exact key 0 (by omega) (by omega) e
theorem Hds.stab {R : Rg} (hi : Inv R) (h : Hds R) (n : Int) : Hds (R.stab n) := by
  intro c s ha
  rw [adj_stab hi] at ha
  obtain ⟨h1, h2⟩ := h c s ha
  refine ⟨?_, pred_stab hi ha h2 n⟩
  cases hn : R.lives n
  · rw [stab_dead hn]; exact h1
  · have k := hi.look hn
    obtain ⟨n1, n2, n3, n4⟩ := hi.next hn
    by_cases e : c = n
    · subst e
      rw [k.head1 hi n1]
      rcases n4 with q | ⟨_, q⟩
      · exact q.trans h1
      · rw [h1, ha.2.2.2 _ n1] at q; cases q
    · rw [k.head c e]; exact h1
theorem Hds.next {R : Rg} (hi : Inv R) (h : Hds R) {c s : Int} (ha : Adj R c s) : R.next c = s := by
  obtain ⟨n1, n2, n3, n4⟩ := hi.next ha.1
  have h1 := (h c s ha).1
  rcases n4 with q | ⟨_, q⟩
  · exact q.trans h1
  · rw [h1, ha.2.2.2 _ n1] at q; cases q
/-- One behind the other. -/
def AdjC (R : Rg) : Int → List Int → Prop
  | _, [] => True
  | c, s :: l => Adj R c s ∧ AdjC R s l
theorem AdjC.take {R : Rg} {c : Int} {l : List Int} (h : AdjC R c l) (k : Nat) : AdjC R c (l.take k) := by
  induction l generalizing c k with
  | nil => simp; exact h
  | cons s l ih =>
    cases k with
    | zero => exact trivial
    | succ k => exact ⟨h.1, ih h.2 k⟩
theorem adjC_stab {R : Rg} (hi : Inv R) (n : Int) {c : Int} {l : List Int} (h : AdjC R c l) : AdjC (R.stab n) c l := by
  induction l generalizing c with
  | nil => exact trivial
  | cons s l ih => exact ⟨(adj_stab hi n c s).2 h.1, ih h.2⟩
/-- The first j of each list are the next ones. -/
def Lst (j : Nat) (c : Int) (R : Rg) : Prop := AdjC R c ((R.know c).succ.take j)
/-- Heads and Preds are right, the lists so far. -/
def Rgt (j : Nat) (R : Rg) : Prop := Inv R ∧ Hds R ∧ ∀ c, R.lives c = true → Lst j c R
theorem lst_own {R : Rg} {j : Nat} (h : Rgt j R) {c : Int} (hc : R.lives c = true) : Lst (j + 1) c (R.stab c) := by
  obtain ⟨hi, hh, hl⟩ := h
  obtain ⟨s, ha⟩ := hi.adj_exists hc
  have k := hi.look hc
  rw [hh.next hi ha] at k
  unfold Lst
  rw [k.one]
  simp only [List.take_succ_cons]
  refine adjC_stab hi c ?_
  refine ⟨ha, ?_⟩
  rw [List.take_take, Nat.min_comm, ← List.take_take]
  exact AdjC.take (hl s ha.2.1) 2
theorem Lst.le {R : Rg} {j k : Nat} {c : Int} (h : Lst j c R) (hk : k ≤ j) : Lst k c R := by
  unfold Lst at *
  have := h.take k
  rwa [List.take_take, Nat.min_eq_left hk] at this
theorem lst_stab {R : Rg} {i j : Nat} (h : Rgt i R) (hij : j ≤ i + 1) {c : Int} (hc : R.lives c = true) (hl : Lst j c R) (n : Int) : Lst j c (R.stab n) := by
  cases hn : R.lives n
  · rw [stab_dead hn]; exact hl
  · by_cases e : c = n
    · subst e; exact (lst_own h hc).le hij
    · unfold Lst at *
      rw [(h.1.look hn).succ c e]
      exact adjC_stab h.1 n hl
theorem Rgt.stab {R : Rg} {j : Nat} (h : Rgt j R) (n : Int) : Rgt j (R.stab n) :=
  ⟨h.1.stab n, h.2.1.stab h.1 n, fun c hc => by rw [lives_stab h.1] at hc; exact lst_stab h (by omega) hc (h.2.2 c hc) n⟩
theorem Rgt.more {R : Rg} {j : Nat} (h : Rgt j R) : Rgt (j + 1) R.round := by
  obtain ⟨p, q⟩ := round_gets (Rgt j) (fun c R => Lst (j + 1) c R) (fun R n hR => hR.stab n) (fun R hR => hR.1) (fun R c hR hc => lst_own hR hc) (fun R c n hR hc hl => lst_stab hR (Nat.le_refl _) hc hl n) h
  exact ⟨p.1, p.2.1, fun c hc => by rw [lives_round h.1] at hc; exact q c hc⟩
theorem Rgt.round {R : Rg} {j : Nat} (h : Rgt j R) : Rgt j R.round := ⟨h.more.1, h.more.2.1, fun c hc => (h.more.2.2 c hc).le (by omega)⟩
/-- CALM: so many rounds later all is as it should be. -/
theorem Inv.calm {R : Rg} (h : Inv R) {m : Nat} (hm : 2 * R.live.length + 3 ≤ m) : Rgt 3 (R.rounds m) := by
  have hl : ∀ k, (R.rounds k).live = R.live := fun k => (alike_rounds R k).live
  have h0 : Rgt 0 (R.rounds (2 * R.live.length)) := by
    have f0 := Far.rounds (b := 0) (by omega) (by omega) h R.live.length
    have f1 := Far.rounds (b := 1) (by omega) (by omega) h R.live.length
    refine ⟨h.rounds _, hds_of ?_ ?_, fun c hc => ?_⟩
    · rw [hl]; exact f0
    · rw [hl]; exact f1
    · simp [Lst, AdjC]
  have h3 : Rgt 3 (R.rounds (2 * R.live.length + 3)) := h0.more.more.more
  obtain ⟨d, rfl⟩ : ∃ d, m = 2 * R.live.length + 3 + d := ⟨m - (2 * R.live.length + 3), by omega⟩
  clear hm
  induction d with
  | zero => exact h3
  | succ d ih => exact ih.round
end Go.Proofs.YtgiiadjocfnhlabGreatDoor

/- The ring of the base, as New makes it, has what holds of a ring always. No program in sight. -/
namespace Go.Proofs.YtgiiadjocfnhlabGreatDoor
set_option linter.unusedVariables false

theorem Circ.rise {l S : List Int} {c0 c1 c2 c3 : Int} (h : Circ l (circleOf l S) c0 c1 c2 c3) (hp : S.Pairwise (· < ·)) (hm : ∀ x, x ∈ S ↔ x ∈ l) :
    l.getD c0.toNat 0 < l.getD c1.toNat 0 ∧ l.getD c1.toNat 0 < l.getD c2.toNat 0 ∧ l.getD c2.toNat 0 < l.getD c3.toNat 0 := by
  have e := h.eq
  match S, e, hp, hm with
  | [s0, s1, s2, s3], e, hp, hm =>
    have hin : ∀ x ∈ [s0, s1, s2, s3], l.getD (ix l x) 0 = x := fun x hx => (ix_spec ((hm x).1 hx)).2.1
    simp only [circleOf, List.map_cons, List.map_nil, List.cons.injEq, and_true] at e
    obtain ⟨e0, e1, e2, e3⟩ := e
    have g0 := hin s0 (by simp)
    have g1 := hin s1 (by simp)
    have g2 := hin s2 (by simp)
    have g3 := hin s3 (by simp)
    rw [← e0, ← e1, ← e2, ← e3]
    simp only [Int.toNat_natCast, g0, g1, g2, g3]
    simp at hp
    omega
  | [], e, _, _ => simp [circleOf] at e
  | [_], e, _, _ => simp [circleOf] at e
  | [_, _], e, _, _ => simp [circleOf] at e
  | [_, _, _], e, _, _ => simp [circleOf] at e
  | _ :: _ :: _ :: _ :: _ :: _, e, _, _ => simp [circleOf] at e

theorem rise_ns {s0 s1 s2 s3 : Int} (p0 : Plc s0) (p1 : Plc s1) (p2 : Plc s2) (p3 : Plc s3) (h1 : s0 < s1) (h2 : s1 < s2) (h3 : s2 < s3) {x : Int} (hx : x = s0 ∨ x = s1 ∨ x = s2 ∨ x = s3) :
    withinB x s0 s1 = false ∧ withinB x s1 s2 = false ∧ withinB x s2 s3 = false ∧ withinB x s3 s0 = false := by
  have px : Plc x := by rcases hx with e | e | e | e <;> rw [e] <;> assumption
  rw [within_not px p0 p1, within_not px p1 p2, within_not px p2 p3, within_not px p3 p0]
  unfold Plc at *
  unfold dist
  rcases hx with e | e | e | e <;> subst e <;> refine ⟨?_, ?_, ?_, ?_⟩ <;> omega

theorem Circ.inv {l S : List Int} {c0 c1 c2 c3 : Int} (h : Circ l (circleOf l S) c0 c1 c2 c3) (hp : S.Pairwise (· < ·)) (hm : ∀ x, x ∈ S ↔ x ∈ l) (hu : ∀ k : Nat, Plc (l.getD k 0)) : Inv (newTo l (circleOf l S) 4) := by
  obtain ⟨r1, r2, r3⟩ := h.rise hp hm
  obtain ⟨k0, k1, k2, k3, i0, i1, i2, i3, kn⟩ := h.kn
  have hplN : ∀ n, (newTo l (circleOf l S) 4).lives n = true → ((newTo l (circleOf l S) 4).pl n).isSome = true := fun n => newTo_pl _ _ _ n
  have hplX : ∀ n, n ∉ [c0, c1, c2, c3] → (newTo l (circleOf l S) 4).pl n = none := fun n hn => by
    rw [h.eq]
    simp only [List.mem_cons, List.not_mem_nil, or_false, not_or] at hn
    simp [newTo, Rg.setK, Rg.setP, upd, rg0, hn.1, hn.2.1, hn.2.2.1, hn.2.2.2]
  have rng := h.rng
  have all := h.all
  have nd := h.nd
  generalize newTo l (circleOf l S) 4 = R at *
  have q0 := hu c0.toNat
  have q1 := hu c1.toNat
  have q2 := hu c2.toNat
  have q3 := hu c3.toNat
  generalize l.getD c0.toNat 0 = s0 at *
  generalize l.getD c1.toNat 0 = s1 at *
  generalize l.getD c2.toNat 0 = s2 at *
  generalize l.getD c3.toNat 0 = s3 at *
  clear h hp hm hu
  have l0 : R.lives c0 = true := by simp [Rg.lives, k0]
  have l1 : R.lives c1 = true := by simp [Rg.lives, k1]
  have l2 : R.lives c2 = true := by simp [Rg.lives, k2]
  have l3 : R.lives c3 = true := by simp [Rg.lives, k3]
  have w0 : R.know c0 = ⟨s0, c3, [c1, c2, c3]⟩ := by simp [Rg.know, k0]
  have w1 : R.know c1 = ⟨s1, c0, [c2, c3, c0]⟩ := by simp [Rg.know, k1]
  have w2 : R.know c2 = ⟨s2, c1, [c3, c0, c1]⟩ := by simp [Rg.know, k2]
  have w3 : R.know c3 = ⟨s3, c2, [c0, c1, c2]⟩ := by simp [Rg.know, k3]
  have who : ∀ n, R.lives n = true → n = c0 ∨ n = c1 ∨ n = c2 ∨ n = c3 := fun n hn => by
    by_cases e : n ∈ [c0, c1, c2, c3]
    · simpa using e
    · simp [Rg.lives, kn n e] at hn
  have ns : ∀ i, 0 ≤ i → i < 4 → withinB (R.idOf i) s0 s1 = false ∧ withinB (R.idOf i) s1 s2 = false ∧ withinB (R.idOf i) s2 s3 = false ∧ withinB (R.idOf i) s3 s0 = false := fun i h0 h4 => by
    refine rise_ns q0 q1 q2 q3 r1 r2 r3 ?_
    have := all i h0 h4
    simp only [List.mem_cons, List.not_mem_nil, or_false] at this
    rcases this with e | e | e | e <;> rw [e]
    · exact .inl i0
    · exact .inr (.inl i1)
    · exact .inr (.inr (.inl i2))
    · exact .inr (.inr (.inr i3))
  refine ⟨fun n hn => ?_, fun n h0 h4 => ?_, hplN, fun n => ?_, fun n hn => ?_, fun n m hn hm e => ?_, fun n hn => ?_, fun n hn x hx => ?_, fun n hn => ?_, fun n hn => ?_⟩
  · have := who n hn
    have := rng n (by simpa using this)
    omega
  · have := all n h0 h4
    simp only [List.mem_cons, List.not_mem_nil, or_false] at this
    rcases this with e | e | e | e <;> rw [e] <;> assumption
  · by_cases e : n ∈ [c0, c1, c2, c3]
    · simp only [List.mem_cons, List.not_mem_nil, or_false] at e
      rcases e with e | e | e | e <;> rw [e]
      · rw [i0]; exact q0
      · rw [i1]; exact q1
      · rw [i2]; exact q2
      · rw [i3]; exact q3
    · have := hplX n e
      simp [Rg.idOf, this, Plc]
  · rcases who n hn with e | e | e | e <;> rw [e]
    · rw [w0, i0]
    · rw [w1, i1]
    · rw [w2, i2]
    · rw [w3, i3]
  · rcases who n hn with a | a | a | a <;> rcases who m hm with b | b | b | b <;> rw [a, b] at e ⊢ <;> simp only [i0, i1, i2, i3] at e <;> omega
  · rcases who n hn with e | e | e | e <;> rw [e]
    · rw [w0]; rfl
    · rw [w1]; rfl
    · rw [w2]; rfl
    · rw [w3]; rfl
  · have hx' : R.lives x = true := by
      rcases who n hn with e | e | e | e <;> rw [e] at hx <;> simp only [w0, w1, w2, w3, List.mem_cons, List.not_mem_nil, or_false] at hx <;> rcases hx with e2 | e2 | e2 <;> rw [e2] <;> assumption
    exact hplN x hx'
  · rcases who n hn with e | e | e | e <;> rw [e]
    · rw [w0]; exact ⟨c1, by simp, l1⟩
    · rw [w1]; exact ⟨c2, by simp, l2⟩
    · rw [w2]; exact ⟨c3, by simp, l3⟩
    · rw [w3]; exact ⟨c0, by simp, l0⟩
  · have n0 : NS R.idOf s0 s1 := fun i h0 h4 => (ns i h0 h4).1
    have n1 : NS R.idOf s1 s2 := fun i h0 h4 => (ns i h0 h4).2.1
    have n2 : NS R.idOf s2 s3 := fun i h0 h4 => (ns i h0 h4).2.2.1
    have n3 : NS R.idOf s3 s0 := fun i h0 h4 => (ns i h0 h4).2.2.2
    rcases who n hn with e | e | e | e <;> rw [e]
    · rw [w0, i0]; simp [Chain, l1, l2, l3, i1, i2, i3, n0, n1, n2]
    · rw [w1, i1]; simp [Chain, l0, l2, l3, i0, i2, i3, n1, n2, n3]
    · rw [w2, i2]; simp [Chain, l0, l1, l3, i0, i1, i3, n0, n2, n3]
    · rw [w3, i3]; simp [Chain, l0, l1, l2, i0, i1, i2, n0, n1, n3]
end Go.Proofs.YtgiiadjocfnhlabGreatDoor

/- Head by head: from each member one comes to every base member; from the base round once. No program in sight. -/
namespace Go.Proofs.YtgiiadjocfnhlabGreatDoor
set_option linter.unusedVariables false

def Rg.hop (R : Rg) (x : Int) : Nat → Int
  | 0 => x
  | k + 1 => R.head (R.hop x k)
theorem Inv.hop {R : Rg} (h : Inv R) {x : Int} (hx : R.lives x = true) (k : Nat) : R.lives (R.hop x k) = true := by
  induction k with
  | zero => exact hx
  | succ k ih => exact (h.head ih).1
theorem hop_head (R : Rg) (x : Int) (k : Nat) : R.hop (R.head x) k = R.hop x (k + 1) := by
  induction k with
  | zero => rfl
  | succ k ih => show R.head (R.hop (R.head x) k) = _; rw [ih]; rfl
theorem Inv.hop_base {R : Rg} (h : Inv R) {b : Int} (h0 : 0 ≤ b) (h4 : b < 4) : ∀ (m : Nat) (x : Int), R.lives x = true → R.rk b x ≤ m → ∃ j, j ≤ m ∧ R.hop x j = b := by
  intro m
  induction m with
  | zero =>
    intro x hx hm
    by_cases e : x = b
    · exact ⟨0, Nat.le_refl _, e⟩
    · have := h.rk_pos (b := b) (h.base b h0 h4) hx e; omega
  | succ m ih =>
    intro x hx hm
    by_cases e : x = b
    · exact ⟨0, Nat.zero_le _, e⟩
    · have := h.toward_rk h0 h4 hx e
      obtain ⟨j, hj, hb⟩ := ih (R.head x) (h.head hx).1 (by omega)
      exact ⟨j + 1, by omega, by rw [← hop_head]; exact hb⟩
/-- Was it there among the first k? -/
def Rg.vis (R : Rg) (b x : Int) : Nat → Bool
  | 0 => false
  | k + 1 => R.vis b x k || R.hop x k == b
theorem vis_of {R : Rg} {b x : Int} {j k : Nat} (hj : j < k) (hb : R.hop x j = b) : R.vis b x k = true := by
  induction k with
  | zero => omega
  | succ k ih =>
    unfold Rg.vis
    by_cases e : j = k
    · subst e; simp [hb]
    · rw [ih (by omega)]; rfl
theorem Inv.vis {R : Rg} (h : Inv R) {b x : Int} (h0 : 0 ≤ b) (h4 : b < 4) (hx : R.lives x = true) : R.vis b x 70 = true := by
  obtain ⟨j, hj, hb⟩ := h.hop_base h0 h4 (R.rk b x) x hx (Nat.le_refl _)
  have h1 := h.rk_le b x
  have h2 : R.live.length ≤ 32 := liveTo_len R 32
  exact vis_of (by omega) hb
def seenV (a b c d : Bool) : Int := (if a then 1 else 0) + (if b then 2 else 0) + (if c then 4 else 0) + (if d then 8 else 0)
def Rg.seen (R : Rg) (x : Int) (k : Nat) : Int := seenV (R.vis 0 x k) (R.vis 1 x k) (R.vis 2 x k) (R.vis 3 x k)
theorem Inv.seen {R : Rg} (h : Inv R) {x : Int} (hx : R.lives x = true) : R.seen x 70 = 15 := by
  unfold Rg.seen
  rw [h.vis (b := 0) (by omega) (by omega) hx, h.vis (b := 1) (by omega) (by omega) hx, h.vis (b := 2) (by omega) (by omega) hx, h.vis (b := 3) (by omega) (by omega) hx]
  rfl
theorem seen_rng (a b c d : Bool) : 0 ≤ seenV a b c d ∧ seenV a b c d ≤ 15 := by cases a <;> cases b <;> cases c <;> cases d <;> decide
/-- On the way round from base member 0. -/
def Way (R : Rg) (n : Int) (k : Nat) : Prop := R.lives n = true ∧ ((n = 0 ∧ k = 0) ∨ (n ≠ 0 ∧ R.rk 0 n + k ≤ 33))
theorem Way.few {R : Rg} (h : Inv R) {n : Int} {k : Nat} (hw : Way R n k) : k < 40 := by
  rcases hw.2 with ⟨_, e⟩ | ⟨_, e⟩ <;> omega
theorem Way.next {R : Rg} (h : Inv R) {n : Int} {k : Nat} (hw : Way R n k) : R.head n = 0 ∧ n ≠ 0 ∨ Way R (R.head n) (k + 1) := by
  obtain ⟨h1, h2⟩ := h.head hw.1
  by_cases e : R.head n = 0
  · left
    refine ⟨e, fun e2 => ?_⟩
    exact h.apart h2 (e.trans e2.symm)
  · right
    refine ⟨h1, .inr ⟨e, ?_⟩⟩
    rcases hw.2 with ⟨_, q⟩ | ⟨q1, q⟩
    · have h3 := h.rk_le 0 (R.head n)
      have h4 : R.live.length ≤ 32 := liveTo_len R 32
      omega
    · have := h.toward_rk (b := 0) (by omega) (by omega) hw.1 q1
      omega
/-- The way so far, and the next step's. -/
theorem Way.sum {R : Rg} (h : Inv R) {n : Int} {k : Nat} (hw : Way R n k) :
    0 < dist (R.idOf n) (R.idOf (R.head n)) ∧ (R.head n = 0 ∧ n ≠ 0 → dist (R.idOf 0) (R.idOf n) + dist (R.idOf n) (R.idOf (R.head n)) = 18446744073709551616) ∧
    (R.head n ≠ 0 → dist (R.idOf 0) (R.idOf n) + dist (R.idOf n) (R.idOf (R.head n)) = dist (R.idOf 0) (R.idOf (R.head n))) := by
  obtain ⟨h1, h2⟩ := h.head hw.1
  have z := ns_ne h.u h.h01 (h.u _) (h.u _) h2
  have r1 := dist_rng (R.idOf n) (R.idOf (R.head n))
  have r2 := dist_rng (R.idOf 0) (R.idOf n)
  have r3 := dist_rng (R.idOf 0) (R.idOf (R.head n))
  have t := dist_tri (R.idOf 0) (R.idOf n) (R.idOf (R.head n))
  refine ⟨by omega, fun ⟨e, ne⟩ => ?_, fun e => ?_⟩
  · rw [e] at t z r1 ⊢
    have := dist_self (R.idOf 0)
    omega
  · by_cases e0 : n = 0
    · subst e0
      have := dist_self (R.idOf 0)
      omega
    · have q := (toward h.u h.h01 (h.u n) (h.u _) h2 (i := 0) (by omega) (by omega) (fun e => e0 (h.inj n 0 hw.1 (h.base 0 (by omega) (by omega)) e)))
      have t2 := dist_tri (R.idOf 0) (R.idOf n) (R.idOf 0)
      have t3 := dist_tri (R.idOf 0) (R.idOf (R.head n)) (R.idOf 0)
      have s0 := dist_self (R.idOf 0)
      have r4 := dist_rng (R.idOf n) (R.idOf 0)
      have r5 := dist_rng (R.idOf (R.head n)) (R.idOf 0)
      have z2 : dist (R.idOf (R.head n)) (R.idOf 0) ≠ 0 := fun q => e (h.inj _ 0 h1 (h.base 0 (by omega) (by omega)) ((dist_zero (h.u _) (h.u 0)).1 q))
      omega
end Go.Proofs.YtgiiadjocfnhlabGreatDoor

/- New, of any places: a ring with what holds always, or none; what a Join gives. -/
namespace Go.Proofs.YtgiiadjocfnhlabGreatDoor
open Go.ChangeShapes Go.WideShapes Go.ChangeAt Go.RowKit Go.Deep
set_option linter.unusedVariables false

/-- A ring that is ours: none of its parts lies in what came in. -/
structure Rn (w wr : World) (r gp gk : Nat) (R : Rg) : Prop where
  ring : RingAt wr r gp gk R
  inv : Inv R
  bel : Below w.heap.size w wr
  gp : w.heap.size ≤ gp
  gk : w.heap.size ≤ gk
theorem Rn.below {w wr w' : World} {r gp gk : Nat} {R : Rg} (h : Rn w wr r gp gk R) (hb : Below wr.heap.size wr w') : Rn w w' r gp gk R :=
  ⟨h.ring.below hb, h.inv, h.bel.trans (hb.mono h.bel.size), h.gp, h.gk⟩
theorem Rn.step {w wr w' : World} {r gp gk : Nat} {R R' : Rg} (h : Rn w wr r gp gk R) (hr : RingAt w' r gp gk R') (hi : Inv R') (k : Kp wr w' gp gk) : Rn w w' r gp gk R' :=
  ⟨hr, hi, h.bel.trans (k.below h.gp h.gk h.bel.size), h.gp, h.gk⟩
theorem getD_u64 {w : World} {a : Option Addr} {n : Nat} {l : List Int} (h : IdIn w a n l) (k : Nat) : Plc (l.getD k 0) := by
  by_cases hk : k < n
  · obtain ⟨b, o, _, _, hu, _⟩ := h.one (v := Value.int .u64) (fun _ => rfl) (i := k) hk
    exact hu
  · have := h.1
    have e : l.getD k 0 = 0 := by simp [List.getD, List.getElem?_eq_none (show l.length ≤ k by omega)]
    rw [e]; unfold Plc; omega
theorem new_any (a : Option Addr) (n cap : Nat) (l : List Int) (w : World) (h : IdIn w a n l) :
    Calls Tryz.prog 43 #[.slice a n cap] w fun e w' =>
      ((∃ c : Int, (c = 1 ∨ c = 8) ∧ e = .returned (.tuple #[.pointer none, .iface 57 (.int .i64 c)])) ∨
       (∃ (r gp gk : Nat) (R : Rg), e = .returned (.tuple #[.pointer (some ⟨r, 0, none⟩), .nilIface]) ∧ Rn w w' r gp gk R ∧ w.heap.size ≤ r)) ∧ Below w.heap.size w w' := by
  by_cases hn : n ≠ 4
  · refine (new_len a n cap w hn h.2.1).mono ?_
    rintro e w' ⟨he, hb⟩
    exact ⟨.inl ⟨1, .inl rfl, he⟩, hb⟩
  · obtain rfl : n = 4 := by omega
    refine (new_four a cap l w h).mono ?_
    rintro e w' ⟨h2, hb⟩
    rcases h2 with ⟨S, hp, hm, hl, he⟩ | ⟨S, r, gp, gk, hp, hm, hl, he, hr, g1, g2, g3⟩
    · exact ⟨.inl ⟨8, .inr rfl, he⟩, hb⟩
    · obtain ⟨c0, c1, c2, c3, hc⟩ := circ_of h.1 hp hm hl
      exact ⟨.inr ⟨r, gp, gk, _, he, ⟨hr, hc.inv hp hm (getD_u64 h), hb, g2, g3⟩, g1⟩, hb⟩
theorem errV_nil {c : Int} (h : c = 0) : errV c = .nilIface := if_pos h
theorem errV_code {c : Int} (h : c ≠ 0) : errV c = .iface 57 (.int .i64 c) := if_neg h
/-- What a Join gives that goes through. -/
theorem Inv.joins {R : Rg} (h : Inv R) {n id via : Int} (hid : Plc id) (hc : R.joinC n id via = 0) :
    ∃ a p, R.kn a = some p ∧ (R.join n id via).kn n = some ⟨id, a, p.succ⟩ ∧ (R.join n id via).kn a = some p ∧ p.succ.length = 3 ∧ (R.join n id via).lives n = true ∧ (R.join n id via).lives a = true ∧
      (R.join n id via).head n = (R.join n id via).head a ∧ p.id = (R.join n id via).idOf a ∧ withinB id p.id ((R.join n id via).idOf ((R.join n id via).head n)) = true ∧ 0 ≤ (R.join n id via).head n ∧ i64 a := by
  obtain ⟨h1, h2, h3, h4, h5, h6⟩ := h.join_at hid hc
  have hJ := h.join n id via hid
  have e : R.join n id via = R.joined n id (R.ahead id via) := if_pos hc
  rw [e] at hJ ⊢
  generalize R.ahead id via = a at *
  have hne : a ≠ n := fun q => by have := h.pl a h1; rw [q, h6] at this; cases this
  have hl1 : (R.joined n id a).lives n = true := by rw [lives_joined, if_pos rfl]
  have hl2 : (R.joined n id a).lives a = true := by rw [lives_joined, if_neg hne]; exact h1
  cases hk : R.kn a with
  | none => simp [Rg.lives, hk] at h1
  | some p =>
    have hp : R.know a = p := by simp [Rg.know, hk]
    have hkn : (R.joined n id a).kn n = some ⟨id, a, p.succ⟩ := by simp [Rg.joined, Rg.setK, Rg.setP, upd, hp]
    have hka : (R.joined n id a).kn a = some p := by simp [Rg.joined, Rg.setK, Rg.setP, upd, hne, hk]
    have hh : (R.joined n id a).head n = (R.joined n id a).head a := by unfold Rg.head; simp [Rg.know, hkn, hka]
    have hpid : p.id = (R.joined n id a).idOf a := by
      have := hJ.id a hl2
      simpa [Rg.know, hka] using this
    have hio : ∀ x, x ≠ n → (R.joined n id a).idOf x = R.idOf x := fun x hx => by unfold Rg.idOf; rw [pl_joined, if_neg hx]
    have hr := h.rng a h1
    have hlen := h.len a h1
    rw [hp] at hlen
    have hhd : (R.joined n id a).head a = R.head a := by
      unfold Rg.head
      rw [hJ.lv, h.lv]
      simp only [Rg.know, hka, hk, Option.getD_some]
      have hm := h.mem a h1
      rw [hp] at hm
      generalize p.succ = l at hm
      induction l with
      | nil => rfl
      | cons x l ih =>
        have hx : x ≠ n := fun q => by have := hm x (by simp); rw [q, h6] at this; cases this
        simp only [headF, lives_joined, if_neg hx]
        rw [ih (fun y hy => hm y (by simp [hy]))]
    have hR := h.head h1
    have hne2 : R.head a ≠ n := fun q => by have := h.pl _ hR.1; rw [q, h6] at this; cases this
    refine ⟨a, p, hk, hkn, hka, hlen, hl1, hl2, hh, hpid, ?_, ?_, ?_⟩
    · rw [hpid, hh, hhd, hio a hne, hio _ hne2]; exact h2
    · rw [hh, hhd]; exact (h.rng _ hR.1).1
    · unfold i64; omega
end Go.Proofs.YtgiiadjocfnhlabGreatDoor
