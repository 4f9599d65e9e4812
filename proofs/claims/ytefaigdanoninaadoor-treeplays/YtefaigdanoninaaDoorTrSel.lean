/- All of a tree, and whoever tells one, as lists. -/
import Derived.Test.YtefaigdanoninaaDoorTrRof
namespace Go.Proofs.YtefaigdanoninaaDoor
open Go.ChangeShapes Go.WideShapes Go.ChangeAt Go.RowKit Go.Deep
set_option linter.unusedVariables false

/-- What holds of a tree by a list. -/
structure TFit (t : Tr) (N : Nat) : Prop where
  pos : ∀ k v, lookI t.up k = some v → 0 ≤ v ∧ 0 ≤ k ∧ k < N
  rot : t.root = -1 ∨ 0 ≤ t.root ∧ t.root < N
theorem RtV.fit {w : World} {t : Tr} {a : Option Addr} {N : Nat} (h : RtV w t a N) : TFit t N := ⟨h.pos, h.rot⟩
theorem TFit.nodes {t : Tr} {N : Nat} (h : TFit t N) : ∃ L : List Int, L.Pairwise (· < ·) ∧ ∀ x, x ∈ L ↔ t.inT x := by
  refine ⟨selL (fun (k : Nat) => ((lookI t.up (k : Int)).isSome || (k : Int) == t.root)) N, selL_rise _ _, fun x => ?_⟩
  rw [selL_mem]
  unfold Tr.inT
  constructor
  · rintro ⟨k, hkj, hk, rfl⟩
    simp only [Bool.or_eq_true, beq_iff_eq] at hk
    rcases hk with hk | hk
    · exact .inr (Option.isSome_iff_exists.1 hk)
    · exact .inl ⟨by omega, hk⟩
  · rintro (⟨h1, h2⟩ | ⟨v, hx⟩)
    · have := h.rot
      refine ⟨x.toNat, by omega, ?_, by omega⟩
      rw [show ((x.toNat : Nat) : Int) = x by omega, h2]
      simp
    · have := h.pos _ _ hx
      exact ⟨x.toNat, by omega, by rw [show ((x.toNat : Nat) : Int) = x by omega, hx]; rfl, by omega⟩
theorem TFit.childs {t : Tr} {N : Nat} (h : TFit t N) (n : Int) : ∃ L : List Int, L.Pairwise (· < ·) ∧ ∀ x, x ∈ L ↔ lookI t.up x = some n := by
  refine ⟨selL (fun (k : Nat) => decide (lookI t.up (k : Int) = some n)) N, selL_rise _ _, fun x => ?_⟩
  rw [selL_mem]
  constructor
  · rintro ⟨k, _, hk, rfl⟩
    simpa using hk
  · intro hx
    have := h.pos _ _ hx
    exact ⟨x.toNat, by omega, by rw [show ((x.toNat : Nat) : Int) = x by omega]; simpa using hx, by omega⟩
/-- A slice of ints with its length told. -/
structure SlN (w : World) (v : Value) (l : List Int) : Prop where
  ex : ∃ a n c, v = .slice a n c ∧ InIn w a n l
theorem SlN.below {w w' : World} {v : Value} {l : List Int} (h : SlN w v l) (hb : Below w.heap.size w w') : SlN w' v l := by
  obtain ⟨a, n, c, h1, h2⟩ := h.ex
  exact ⟨a, n, c, h1, h2.below (Nat.le_refl _) hb⟩
theorem nodes_l {nx : Int → Option Int} {t : Tr} {g : Nat} {L : List Int} (hp : L.Pairwise (· < ·)) (hm : ∀ x, x ∈ L ↔ t.inT x) (w : World) (h : UpAt w g t.up) (hl : t.up.length ≤ 100000) (hi : ∀ k ∈ t.up.map (·.1), i64 k) (hr : i64 t.root) (hok : TrOk nx t) :
    Calls Tryd.prog 9 #[.agg #[.int .i64 t.root, .map (some g)]] w fun e w' => (∃ a n c, e = .returned (.slice a n c) ∧ InIn w' a n L) ∧ Below w.heap.size w w' := by
  refine (nodes_t nx t g w h hl hi hr hok).mono ?_
  rintro e w' ⟨v, l, rfl, hs, h1, h2, hb⟩
  have e : l = L := rising_is _ _ h1 hp (fun x => (h2 x).trans (hm x).symm)
  subst e
  obtain ⟨a, c, rfl, hin, _⟩ := hs.ex
  exact ⟨⟨a, _, c, rfl, hin⟩, hb⟩
theorem childs_l {t : Tr} {g : Nat} {n : Int} {L : List Int} (hp : L.Pairwise (· < ·)) (hm : ∀ x, x ∈ L ↔ lookI t.up x = some n) (w : World) (h : UpAt w g t.up) (hl : t.up.length ≤ 100000) (hi : ∀ k ∈ t.up.map (·.1), i64 k) :
    Calls Tryd.prog 13 #[.agg #[.int .i64 t.root, .map (some g)], .int .i64 n] w fun e w' => (∃ a n c, e = .returned (.slice a n c) ∧ InIn w' a n L) ∧ Below w.heap.size w w' := by
  refine (children_t t g n w h hl hi).mono ?_
  rintro e w' ⟨v, l, rfl, hs, h1, h2, hb⟩
  have e : l = L := rising_is _ _ h1 hp (fun x => (h2 x).trans (hm x).symm)
  subst e
  obtain ⟨a, c, rfl, hin, _⟩ := hs.ex
  exact ⟨⟨a, _, c, rfl, hin⟩, hb⟩
theorem rnodes_l {t : Tr} {a : Option Addr} {N c : Nat} {L : List Int} (hp : L.Pairwise (· < ·)) (hm : ∀ x, x ∈ L ↔ t.inT x) (w : World) (h : RtV w t a N) (hN : N ≤ 1000) :
    Calls Tryd.prog 10 #[.agg #[.int .i64 t.root, .slice a N c]] w fun e w' => (∃ a n c, e = .returned (.slice a n c) ∧ InIn w' a n L) ∧ Below w.heap.size w w' := by
  refine (rnodes_any t a N c w h hN).mono ?_
  rintro e w' ⟨⟨v, rfl, l, hs, h1, h2⟩, hb⟩
  have e : l = L := rising_is _ _ h1 hp (fun x => (h2 x).trans (hm x).symm)
  subst e
  obtain ⟨a, m, c, rfl, hin⟩ := hs.ex
  exact ⟨⟨a, m, c, rfl, hin⟩, hb⟩
theorem rchilds_l {t : Tr} {a : Option Addr} {N c : Nat} {n : Int} {L : List Int} (hp : L.Pairwise (· < ·)) (hm : ∀ x, x ∈ L ↔ lookI t.up x = some n) (w : World) (h : RtV w t a N) (hN : N ≤ 1000) (hn : 0 ≤ n) :
    Calls Tryd.prog 14 #[.agg #[.int .i64 t.root, .slice a N c], .int .i64 n] w fun e w' => (∃ a n c, e = .returned (.slice a n c) ∧ InIn w' a n L) ∧ Below w.heap.size w w' := by
  refine (rchildren_any t a N c n w h hN hn).mono ?_
  rintro e w' ⟨⟨v, rfl, l, hs, h1, h2⟩, hb⟩
  have e : l = L := rising_is _ _ h1 hp (fun x => (h2 x).trans (hm x).symm)
  subst e
  obtain ⟨a, m, c, rfl, hin⟩ := hs.ex
  exact ⟨⟨a, m, c, rfl, hin⟩, hb⟩
theorem ints_self (a : Option Addr) (n c : Nat) (b : Option Addr) (m d : Nat) (l : List Int) (w : World) (hl : InIn w a n l) (hk : InIn w b m l) :
    Calls Tryd.prog 8 #[.slice a n c, .slice b m d] w fun e w' => e = .returned (.bool true) ∧ Below w.heap.size w w' :=
  (ints_any a n c l b m d l w hl hk).mono (fun e w' z => ⟨by rw [z.1]; simp [intsB], z.2⟩)
end Go.Proofs.YtefaigdanoninaaDoor
