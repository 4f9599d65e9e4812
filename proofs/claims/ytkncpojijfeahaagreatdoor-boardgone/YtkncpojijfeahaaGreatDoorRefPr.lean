/- The document's reader (wigwagref06): pred. -/
import Derived.Test.YtkncpojijfeahaaGreatDoorRefNm
import Derived.Test.YtkncpojijfeahaaGreatDoorRefSt
import Derived.Test.YtkncpojijfeahaaGreatDoorJoinIsCode
import Derived.Deep.RegionWith
namespace Go.Proofs.YtkncpojijfeahaaGreatDoor
open Go.ChangeShapes Go.WideShapes Go.ChangeAt Go.RowKit
set_option linter.unusedVariables false

theorem ba_self6 (s : ByteArray) : ba s.data.toList = s := by cases s; simp [ba]
/-- What the calls answer at a place, good or bad. -/
def wAft (s : ByteArray) (k : Nat) (b : Bool) : Nat × Bool × ByteArray := if b then (k, true, ⟨#[]⟩) else (pos s (rWord (dr s k)).left, (rWord (dr s k)).isBad, wdV (rWord (dr s k)))
def mAft (s m : ByteArray) (k : Nat) (b : Bool) : Nat × Bool := if b then (k, true) else (pos s (rMark m.data.toList (dr s k)).left, (rMark m.data.toList (dr s k)).isBad)
def sAft (s : ByteArray) (k : Nat) (b : Bool) : Nat × Bool × ByteArray := if b then (k, true, ⟨#[]⟩) else (pos s (rStr (dr s k)).left, (rStr (dr s k)).isBad, wdV (rStr (dr s k)))
def nAft (s : ByteArray) (k : Nat) (b : Bool) : Nat × Bool × Int := if b then (k, true, 0) else (pos s (rNumber (dr s k)).left, (rNumber (dr s k)).isBad, nmV (rNumber (dr s k)))
theorem wAft_le {s : ByteArray} {k : Nat} {b : Bool} (h : k ≤ s.size) : (wAft s k b).1 ≤ s.size := by unfold wAft; cases b <;> simp [pos_le, h]
theorem mAft_le {s m : ByteArray} {k : Nat} {b : Bool} (h : k ≤ s.size) : (mAft s m k b).1 ≤ s.size := by unfold mAft; cases b <;> simp [pos_le, h]
theorem sAft_le {s : ByteArray} {k : Nat} {b : Bool} (h : k ≤ s.size) : (sAft s k b).1 ≤ s.size := by unfold sAft; cases b <;> simp [pos_le, h]
theorem nAft_le {s : ByteArray} {k : Nat} {b : Bool} (h : k ≤ s.size) : (nAft s k b).1 ≤ s.size := by unfold nAft; cases b <;> simp [pos_le, h]
theorem rword_any (s : ByteArray) (k : Nat) (b : Bool) (w : World) (hk : k ≤ s.size) (hs : s.size ≤ 1000) : Calls Tryz.prog 89 #[.agg #[.string s, .int .i64 (k : Int), .bool b]] w fun e w' => e = .returned (.tuple #[.agg #[.string s, .int .i64 ((wAft s k b).1 : Int), .bool (wAft s k b).2.1], .string (wAft s k b).2.2]) ∧ Below w.heap.size w w' := by
  cases b
  · exact rword_f s k w hk hs
  · exact rword_t s k w
theorem rmark_any (s m : ByteArray) (k : Nat) (b : Bool) (w : World) (hk : k ≤ s.size) (hs : s.size ≤ 1000) (hm1 : 1 ≤ m.size) (hm2 : m.size ≤ 10) : Calls Tryz.prog 103 #[.agg #[.string s, .int .i64 (k : Int), .bool b], .string m] w fun e w' => e = .returned (.agg #[.string s, .int .i64 ((mAft s m k b).1 : Int), .bool (mAft s m k b).2]) ∧ Below w.heap.size w w' := by
  cases b
  · exact rmark_f s m k w hk hs hm1 hm2
  · exact rmark_t s m k w
theorem rstr_any (s : ByteArray) (k : Nat) (b : Bool) (w : World) (hk : k ≤ s.size) (hs : s.size ≤ 1000) : Calls Tryz.prog 102 #[.agg #[.string s, .int .i64 (k : Int), .bool b]] w fun e w' => e = .returned (.tuple #[.agg #[.string s, .int .i64 ((sAft s k b).1 : Int), .bool (sAft s k b).2.1], .string (sAft s k b).2.2]) ∧ Below w.heap.size w w' := by
  cases b
  · exact rstr_f s k w hk hs
  · exact rstr_t s k w
theorem rnumber_any (s : ByteArray) (k : Nat) (b : Bool) (w : World) (hk : k ≤ s.size) (hs : s.size ≤ 1000) : Calls Tryz.prog 105 #[.agg #[.string s, .int .i64 (k : Int), .bool b]] w fun e w' => e = .returned (.tuple #[.agg #[.string s, .int .i64 ((nAft s k b).1 : Int), .bool (nAft s k b).2.1], .int .i64 (nAft s k b).2.2]) ∧ Below w.heap.size w w' := by
  cases b
  · exact rnumber_f s k w hk hs
  · exact rnumber_t s k w
/-- What pred answers. -/
def PrAns (e : Ending) (s : ByteArray) (r : Ps Pl) : Prop := ∃ q : Pl, e = .returned (.tuple #[.agg #[.string s, .int .i64 (pos s r.left : Int), .bool r.isBad], .agg #[.string (ba q.name), .int .i64 q.op, .int .i64 q.lo, .int .i64 q.hi, .string (ba q.str)]]) ∧ ∀ q' l, r = .ok q' l → q' = q
theorem rnum_suf (l : List UInt8) : (rNumber l).left <:+ l := by
  have h := List.dropWhile_suffix (p := isBlank) (l := l)
  cases hl : l.dropWhile isBlank with
  | nil => rw [rnum_end hl]; exact List.nil_suffix
  | cons c r =>
    rw [hl] at h
    by_cases hb : nBad (c :: r)
    · rw [rnum_no hl hb]; exact h
    · rw [rnum_ok hl hb]
      show nRest (c :: r) <:+ l
      exact ((List.dropWhile_suffix _).trans (List.drop_suffix _ _)).trans h
theorem ms_is (s m : ByteArray) (k : Nat) : sAft s (mAft s m k false).1 (mAft s m k false).2 = (pos s (rMarkStr m.data.toList (dr s k)).left, (rMarkStr m.data.toList (dr s k)).isBad, wdV (rMarkStr m.data.toList (dr s k))) := by
  have hs := rMark_suf m.data.toList (dr s k)
  unfold mAft
  simp only [Bool.false_eq_true, if_false]
  unfold rMarkStr
  cases hr : rMark m.data.toList (dr s k) with
  | fail e r => simp [sAft, Ps.isBad, Ps.left, wdV]
  | ok u r =>
    rw [hr] at hs
    have hd : dr s (pos s r) = r := dr_posd hs
    simp [sAft, Ps.isBad, Ps.left, hd]
theorem nums_is (s : ByteArray) (k : Nat) (hgo : (wAft s k false).2.1 = true ∨ (wAft s k false).2.2 = ⟨#[105, 110]⟩) :
    (nAft s (mAft s ⟨#[46, 46]⟩ (nAft s (wAft s k false).1 (wAft s k false).2.1).1 (nAft s (wAft s k false).1 (wAft s k false).2.1).2.1).1 (mAft s ⟨#[46, 46]⟩ (nAft s (wAft s k false).1 (wAft s k false).2.1).1 (nAft s (wAft s k false).1 (wAft s k false).2.1).2.1).2).1 = pos s (rNums (dr s k)).left ∧
    (nAft s (mAft s ⟨#[46, 46]⟩ (nAft s (wAft s k false).1 (wAft s k false).2.1).1 (nAft s (wAft s k false).1 (wAft s k false).2.1).2.1).1 (mAft s ⟨#[46, 46]⟩ (nAft s (wAft s k false).1 (wAft s k false).2.1).1 (nAft s (wAft s k false).1 (wAft s k false).2.1).2.1).2).2.1 = (rNums (dr s k)).isBad ∧
    ∀ v l, rNums (dr s k) = .ok v l → v = ((nAft s (wAft s k false).1 (wAft s k false).2.1).2.2, (nAft s (mAft s ⟨#[46, 46]⟩ (nAft s (wAft s k false).1 (wAft s k false).2.1).1 (nAft s (wAft s k false).1 (wAft s k false).2.1).2.1).1 (mAft s ⟨#[46, 46]⟩ (nAft s (wAft s k false).1 (wAft s k false).2.1).1 (nAft s (wAft s k false).1 (wAft s k false).2.1).2.1).2).2.2) := by
  have em : (⟨#[46, 46]⟩ : ByteArray).data.toList = [46, 46] := rfl
  have hws := rWord_suf (dr s k)
  unfold rNums rThis
  unfold wAft at hgo ⊢
  simp only [Bool.false_eq_true, if_false] at hgo ⊢
  cases hw : rWord (dr s k) with
  | fail e r => simp [nAft, mAft, Ps.isBad, Ps.left]
  | ok v r =>
    rw [hw] at hgo hws
    have hv : v = [105, 110] := by
      rcases hgo with h | h
      · simp [Ps.isBad] at h
      · have := congrArg (fun x : ByteArray => x.data.toList) h
        simpa [wdV, ba_list] using this
    subst hv
    have hd : dr s (pos s r) = r := dr_posd hws
    simp only [Ps.isBad, Ps.left, if_true]
    have hns := rnum_suf r
    unfold nAft
    simp only [Bool.false_eq_true, if_false, hd]
    cases hn : rNumber r with
    | fail e r1 => simp [mAft, Ps.isBad, Ps.left]
    | ok lo r1 =>
      rw [hn] at hns
      have hd1 : dr s (pos s r1) = r1 := dr_posd (hns.trans hws)
      have hms := rMark_suf [46, 46] r1
      unfold mAft
      simp only [Ps.isBad, Ps.left, Bool.false_eq_true, if_false, hd1, nmV]
      cases hm : rMark [46, 46] r1 with
      | fail e r2 => simp
      | ok u r2 =>
        rw [hm] at hms
        have hd2 : dr s (pos s r2) = r2 := dr_posd (hms.trans (hns.trans hws))
        simp only [Bool.false_eq_true, if_false, hd2]
        cases hn2 : rNumber r2 with
        | fail e r3 => simp
        | ok hi r3 => simp
/-- The blocks of a call of pred's: the place, the two answers, the predicate so far. -/
structure Pq (w W : World) (s : ByteArray) (k : Nat) (b : Bool) (X : Nat) (x : Array Value) : Prop where
  sp : Sp w W s k b
  o2 : W.heap[w.heap.size + 1 + 1]? = some (.cells #[.string ⟨#[]⟩, .int .i64 0, .int .i64 0, .int .i64 0, .string ⟨#[]⟩] 160 (0, 0))
  xb : W.heap[X]? = some (.cells x 160 (0, 0))
  xl : w.heap.size + 3 ≤ X
theorem Pq.below {w W W' : World} {s : ByteArray} {k : Nat} {b : Bool} {X : Nat} {x : Array Value} (h : Pq w W s k b X x) (hb : Below W.heap.size W W') : Pq w W' s k b X x :=
  ⟨h.sp.below hb, (hb.block _ (lt_of_block h.o2)).trans h.o2, (hb.block _ (lt_of_block h.xb)).trans h.xb, h.xl⟩
theorem Pq.setx {w W : World} {s : ByteArray} {k : Nat} {b : Bool} {X : Nat} {x y : Array Value} (h : Pq w W s k b X x) (i : Nat) (v : Value) (hy : x.setIfInBounds i v = y) : Pq w (W.setCell ⟨X, i, none⟩ v) s k b X y := by
  have hx := h.xl
  refine ⟨⟨(Below.heap_setCell _ _ _ _ (by simp; omega)).trans h.sp.box, (Below.heap_setCell _ _ _ _ (by simp; omega)).trans h.sp.out, h.sp.bel.setCell (by simp; omega) _⟩, (Below.heap_setCell _ _ _ _ (by simp; omega)).trans h.o2, box_setG h.xb hy, h.xl⟩
theorem Pq.init (w : World) (s : ByteArray) (k : Nat) (b : Bool) : Sp w (((w.alloc (.cells #[.string s, .int .i64 (k : Int), .bool b] 196)).alloc (.cells #[.string ⟨#[]⟩, .int .i64 0, .bool false] 196)).alloc (.cells #[.string ⟨#[]⟩, .int .i64 0, .int .i64 0, .int .i64 0, .string ⟨#[]⟩] 160)) s k b ∧
    (((w.alloc (.cells #[.string s, .int .i64 (k : Int), .bool b] 196)).alloc (.cells #[.string ⟨#[]⟩, .int .i64 0, .bool false] 196)).alloc (.cells #[.string ⟨#[]⟩, .int .i64 0, .int .i64 0, .int .i64 0, .string ⟨#[]⟩] 160)).heap[w.heap.size + 1 + 1]? = some (.cells #[.string ⟨#[]⟩, .int .i64 0, .int .i64 0, .int .i64 0, .string ⟨#[]⟩] 160 (0, 0)) :=
  ⟨(Sp.init w s k b).below ((Below.refl _ _).alloc (Nat.le_refl _) _), by
    have := heap_alloc_new ((w.alloc (.cells #[.string s, .int .i64 (k : Int), .bool b] 196)).alloc (.cells #[.string ⟨#[]⟩, .int .i64 0, .bool false] 196)) (.cells #[.string ⟨#[]⟩, .int .i64 0, .int .i64 0, .int .i64 0, .string ⟨#[]⟩] 160)
    simpa using this⟩
theorem fiveP {w : World} {b : Nat} {a0 a1 a2 a3 a4 : Value} {t : TypeId} (h : w.heap[b]? = some (.cells #[a0, a1, a2, a3, a4] t (0, 0))) :
    w.cell? ⟨b, 0, none⟩ = some a0 ∧ w.cell? ⟨b, 1, none⟩ = some a1 ∧ w.cell? ⟨b, 2, none⟩ = some a2 ∧ w.cell? ⟨b, 3, none⟩ = some a3 ∧ w.cell? ⟨b, 4, none⟩ = some a4 ∧ (∀ o, w.frozen? ⟨b, o, none⟩ = false) ∧ b < w.heap.size := by
  refine ⟨?_, ?_, ?_, ?_, ?_, ?_, lt_of_block h⟩ <;> simp [World.cell?, World.frozen?, h]
theorem threeP {w : World} {b : Nat} {a0 a1 a2 : Value} {t : TypeId} (h : w.heap[b]? = some (.cells #[a0, a1, a2] t (0, 0))) :
    w.cell? ⟨b, 0, none⟩ = some a0 ∧ w.cell? ⟨b, 1, none⟩ = some a1 ∧ w.cell? ⟨b, 2, none⟩ = some a2 ∧ (∀ o, w.frozen? ⟨b, o, none⟩ = false) ∧ b < w.heap.size := by
  refine ⟨?_, ?_, ?_, ?_, lt_of_block h⟩ <;> simp [World.cell?, World.frozen?, h]
end Go.Proofs.YtkncpojijfeahaaGreatDoor
