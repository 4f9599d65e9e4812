/- Live: who lives; slices.IndexFunc, ContainsFunc at ints; taken, needed. -/
import Derived.Test.YtkkkldglceiiiaaGreatChAdd
import Derived.Deep.AppendLies
namespace Go.Proofs.YtkkkldglceiiiaaGreat
open Go.ChangeShapes Go.WideShapes Go.ChangeAt Go.RowKit Go.Deep
set_option linter.unusedVariables false

/-- Who of the first k addresses lives. -/
def Rg.liveTo (R : Rg) : Nat → List Int
  | 0 => []
  | k + 1 => if R.lives k then R.liveTo k ++ [(k : Int)] else R.liveTo k
def Rg.live (R : Rg) : List Int := R.liveTo 32
theorem liveTo_len (R : Rg) (k : Nat) : (R.liveTo k).length ≤ k := by
  induction k with
  | zero => simp [Rg.liveTo]
  | succ k ih =>
    unfold Rg.liveTo
    split
    · rw [List.length_append]; simp; omega
    · omega
theorem mem_liveTo (R : Rg) (k : Nat) (n : Int) : n ∈ R.liveTo k ↔ 0 ≤ n ∧ n < k ∧ R.lives n = true := by
  induction k with
  | zero => simp [Rg.liveTo]; omega
  | succ k ih =>
    unfold Rg.liveTo
    split
    · rename_i h
      rw [List.mem_append, ih, List.mem_singleton]
      constructor
      · rintro (⟨h1, h2, h3⟩ | rfl)
        · exact ⟨h1, by omega, h3⟩
        · exact ⟨by omega, by omega, h⟩
      · rintro ⟨h1, h2, h3⟩
        by_cases e : n = k
        · exact .inr e
        · exact .inl ⟨h1, by omega, h3⟩
    · rename_i h
      rw [ih]
      constructor
      · rintro ⟨h1, h2, h3⟩; exact ⟨h1, by omega, h3⟩
      · rintro ⟨h1, h2, h3⟩
        refine ⟨h1, ?_, h3⟩
        by_cases e : n = k
        · rw [e] at h3; exact absurd h3 h
        · omega
theorem mem_live (R : Rg) (n : Int) : n ∈ R.live ↔ 0 ≤ n ∧ n < 32 ∧ R.lives n = true := mem_liveTo R 32 n
theorem live_i64 (R : Rg) (k : Nat) (hk : k ≤ 32) : ∀ x ∈ R.liveTo k, i64 x := fun x hx => by
  have := (mem_liveTo R k x).1 hx
  unfold i64; omega

set_option maxRecDepth 100000 in
set_option maxHeartbeats 2000000 in
theorem live_r (r gp gk : Nat) (R : Rg) (w : World) (h : RingAt w r gp gk R) :
    Calls Tryz.prog 21 #[.pointer (some ⟨r, 0, none⟩)] w fun e w' => ∃ a c, e = .returned (.slice a R.live.length c) ∧ InIn w' a R.live.length R.live ∧ (∀ x, a = some x → w.heap.size ≤ x.block) ∧ Below w.heap.size w w' := by
  obtain ⟨i0, hi, hz0, hz1, hz2⟩ := info_of Tryz.infoInt
  have H : Hid (RingAt w r gp gk R) := h
  clear h
  go_enter Tryz.func21, Tryz.ntmps21
  go_wp2
  go_loopg [5, 3] 32 (fun kx s v wr => ∃ k : Nat, s = .int .i64 k ∧ k ≤ 32 ∧ kx = 32 - k ∧ Hid (Below w.heap.size w wr) ∧ Hid (wr.ownsRow w.heap.size 3 1 v (R.liveTo k).length ((R.liveTo k).map cellI)))
  case atStart => exact ⟨0, rfl, Nat.zero_le _, rfl, (Below.refl _ _ : Below w.heap.size w w), World.ownsRow_nil w w.heap.size 3 1⟩
  case round =>
    obtain ⟨k, rfl, hk, rfl, HB, HO⟩ := hrel
    by_cases hlt : k < 32
    · have hl := liveTo_len R k
      cases hq : R.lives k
      · have HQ : Hid _ := hq
        have E : Hid (R.liveTo (k + 1) = R.liveTo k) := by show R.liveTo (k + 1) = R.liveTo k; simp [Rg.liveTo, hq]
        clear hq
        go_wp2_with (go_at_call 39; refine (lives_r _ _ _ _ _ _ (H.out.below HB.out)).mono ?_; rintro e w' ⟨rfl, hb⟩; rw [HQ.out])
        go_roundg (32 - (k + 1))
        case measure => omega
        case rel => exact ⟨k + 1, by go_num, by omega, rfl, HB.out.trans (hb.mono HB.out.size), by rw [E.out]; exact HO.out.kept (row := none) ⟨hb.os, hb.tape, hb.output, hb.size, fun b hb1 _ => hb.block b hb1⟩ (by cases HH : Value.ownBlock _ <;> simp)⟩
      · have HQ : Hid _ := hq
        have E : Hid (R.liveTo (k + 1) = R.liveTo k ++ [(k : Int)]) := by show R.liveTo (k + 1) = _; simp [Rg.liveTo, hq]
        clear hq
        go_wp2_with fail
        refine (lives_r _ _ _ _ _ _ (H.out.below HB.out)).mono ?_
        rintro e w2 ⟨rfl, hb⟩
        rw [HQ.out]
        have HO2 : Hid ((w2.alloc (.cells #[.int .i64 k] 3)).ownsRow w.heap.size 3 1 u3 (R.liveTo k).length ((R.liveTo k).map cellI)) := (HO.out.kept (row := none) (w' := w2) ⟨hb.os, hb.tape, hb.output, hb.size, fun b hb1 _ => hb.block b hb1⟩ (by cases HH : Value.ownBlock _ <;> simp)).alloc (.cells #[.int .i64 k] 3)
        have HS : Hid (Src Tryz.prog 1 30 (.slice (some ⟨w2.heap.size, 0, none⟩) 1 1) 1 [cellI k] (w2.alloc (.cells #[.int .i64 k] 3))) := Src.ofSlice _ Tryz.underlying30 _ _ _ _ rfl (World.news_of_block (cs := #[.int .i64 k]) (t := 3) (fr := (0, 0)) (heap_alloc_new w2 _)) (by simp [cellI, Value.oneCell'])
        have B2 : Hid (Below w.heap.size w w2) := HB.out.trans (hb.mono HB.out.size)
        clear hb
        go_wp2_with (at_builtin; refine wpList_own_append _ rfl _ _ 30 30 rfl w.heap.size 3 i0 _ 8 Tryz.underlying30 hi hz0 hz1 hz2 rfl _ _ _ rfl HO2.out _ 1 [cellI k] rfl HS.out ?c3 ?c4 ?c5 ?_)
        case c3 => unfold maxLen; omega
        case c4 => omega
        case c5 => have := B2.out.size; simp; omega
        intro v' w3 ha
        have HA : Hid _ := ha
        clear ha
        go_wp2
        go_roundg (32 - (k + 1))
        case measure => omega
        case rel =>
          refine ⟨k + 1, by go_num, by omega, rfl, ?_, ?_⟩
          · have hg := HA.out.grown
            have b3 : Below w.heap.size w (w2.alloc (.cells #[.int .i64 k] 3)) := B2.out.trans ((below_one _ _).mono B2.out.size)
            exact b3.trans ⟨hg.os, hg.tape, hg.output, hg.size, fun b hb1 => hg.block b (by have := b3.size; omega) (fun e => by have := (World.ownsRow.lt HO2.out b e.symm).1; omega)⟩
          · have hr := HA.out.row
            rw [E.out]
            refine (show w3.ownsRow w.heap.size 3 1 v' (R.liveTo k ++ [(k : Int)]).length ((R.liveTo k ++ [(k : Int)]).map cellI) from ?_)
            simpa using hr
    · obtain rfl : k = 32 := by omega
      obtain ⟨a, c, hv⟩ : ∃ a c, u3 = .slice a (R.liveTo 32).length c := by
        rcases HO.out.2 with ⟨h0, h1⟩ | ⟨g, cap, cur, hv, _⟩
        · exact ⟨none, 0, by rw [h0, h1]⟩
        · exact ⟨_, _, hv⟩
      subst hv
      go_wp2
      go_ret
      have hl := liveTo_len R 32
      exact ⟨a, c, rfl, in_of_own HO.out (live_i64 R 32 (by omega)) (by show (R.liveTo 32).length ≤ _; omega), own_new HO.out, HB.out⟩

/-- IndexFunc and ContainsFunc, of a closure that only makes memory. -/
def anyF (p : Int → Bool) (l : List Int) : Bool := l.any p
end Go.Proofs.YtkkkldglceiiiaaGreat
