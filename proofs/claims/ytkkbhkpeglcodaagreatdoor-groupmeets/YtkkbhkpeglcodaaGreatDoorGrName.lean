/- group.Name, group.names. -/
import Derived.Test.YtkkbhkpeglcodaaGreatDoorDyCov3
import Derived.Test.YtkkbhkpeglcodaaGreatDoorShelf
import Derived.Test.YtkkbhkpeglcodaaGreatDoorFam
import Derived.Test.YtkkbhkpeglcodaaGreatDoorBagMath
import Derived.Test.YtkkbhkpeglcodaaGreatDoorOwnSrc
import Derived.Lib.LaidTab
import Derived.Deep.RegionWith
namespace Go.Proofs.YtkkbhkpeglcodaaGreatDoor
open Go.ChangeShapes Go.WideShapes Go.ChangeAt Go.RowKit
set_option linter.unusedVariables false

theorem gvar_below {B : Nat} {w w' : World} {n : String} {g : Nat} {x : Array Value} (hb : Below B w w') (hg : Tryz.prog.globalNamed n = some g) (hlt : g < B) (h : w.var? Tryz.prog n = some x) : w'.var? Tryz.prog n = some x := by
  unfold World.var? at *
  rw [hg] at *
  simp only [Option.bind_some] at *
  rw [hb.block g hlt]; exact h
theorem ggrow_below (w : World) (k : Nat) (os : Array Obj) : Below w.heap.size w (Go.Sort.grow (w.drewN k) os) :=
  ⟨rfl, rfl, rfl, by simp [Go.Sort.grow], fun i hi => by simp [Go.Sort.grow, Array.getElem?_append, hi]⟩
/-- The library's table holds what it should. -/
structure GEnv (w : World) : Prop where
  tab : Lib.TabIs Tryz.prog w "internal/strconv.uint64pow10" .u64 Lib.pow10Tab
  lt : 4 < w.heap.size
theorem GEnv.below {w w' : World} (h : GEnv w) (hb : Below w.heap.size w w') : GEnv w' :=
  ⟨gvar_below hb (by kernel_rfl) h.lt h.tab, Nat.lt_of_lt_of_le h.lt hb.size⟩

def dec (n : Int) : ByteArray := ⟨(Lib.itoa n).toArray⟩
def gname (a : ByteArray) (x : Iv) : ByteArray := a ++ ⟨#[46]⟩ ++ dec x.lev ++ ⟨#[46]⟩ ++ dec x.idx
theorem itoa_any (n : Int) (w : World) (hE : GEnv w) (h : i64 n) : Calls Tryz.prog 31 #[.int .i64 n] w fun e w' => e = .returned (.string (dec n)) ∧ Below w.heap.size w w' := by
  refine (Tryz.strconv_Itoa n h.1 h.2 w hE.tab).mono ?_
  rintro e w' ⟨rfl, k, os, rfl⟩
  exact ⟨rfl, ggrow_below _ _ _⟩
theorem nDigits_le : ∀ (k u : Nat), u < 10 ^ k → Lib.nDigits u ≤ max 1 k := by
  intro k
  induction k with
  | zero => intro u h; rw [Lib.nDigits, dif_pos (by omega)]; omega
  | succ k ih =>
    intro u h
    rw [Lib.nDigits]
    by_cases h1 : u < 10
    · rw [dif_pos h1]; omega
    · rw [dif_neg h1]
      have hk : u / 10 < 10 ^ k := by rw [Nat.div_lt_iff_lt_mul (by omega), ← Nat.pow_succ]; exact h
      have h2 := ih (u / 10) hk
      by_cases hk0 : k = 0
      · subst hk0; simp at h; omega
      · omega
theorem dec_size (n : Int) (h : i64 n) : (dec n).size ≤ 30 := by
  show (Lib.itoa n).toArray.size ≤ 30
  unfold Lib.itoa
  have hb : ∀ u : Nat, u < 10 ^ 20 → (Lib.decDigits u).length ≤ 20 := fun u hu => by
    rw [Lib.decDigits_length]; have := nDigits_le 20 u hu; omega
  have hp : (10 : Nat) ^ 20 = 100000000000000000000 := by decide
  unfold i64 at h
  split
  · have := hb n.natAbs (by rw [hp]; omega); simp; omega
  · have := hb n.toNat (by rw [hp]; omega); simp; omega
theorem gname_size (a : ByteArray) (x : Iv) (h1 : i64 x.lev) (h2 : i64 x.idx) : (gname a x).size ≤ a.size + 62 := by
  have e1 := dec_size x.lev h1
  have e2 := dec_size x.idx h2
  unfold gname
  rw [ByteArray.size_append, ByteArray.size_append, ByteArray.size_append, ByteArray.size_append]
  have : (⟨#[46]⟩ : ByteArray).size = 1 := rfl
  omega

set_option maxRecDepth 100000 in
set_option maxHeartbeats 1000000 in
theorem name_of (a : ByteArray) (x : Iv) (w : World) (hE : GEnv w) (ha : a.size ≤ 1000000) (h1 : i64 x.lev) (h2 : i64 x.idx) :
    Calls Tryz.prog 9 #[.string a, .agg #[.int .i64 x.lev, .int .i64 x.idx]] w fun e w' => e = .returned (.string (gname a x)) ∧ Below w.heap.size w w' := by
  obtain ⟨W0, hW0⟩ : ∃ W0, W0 = w.alloc (.cells #[.int .i64 x.lev, .int .i64 x.idx] 23) := ⟨_, rfl⟩
  have hbw : Below w.heap.size w W0 := by rw [hW0]; exact dbel1 _ _
  have f0 : W0.cell? ⟨w.heap.size, 0, none⟩ = some (.int .i64 x.lev) := by rw [hW0]; simp
  have f1 : W0.cell? ⟨w.heap.size, 1, none⟩ = some (.int .i64 x.idx) := by rw [hW0]; simp
  obtain ⟨ι, F, _, hF0, hFb, hFc⟩ := grown_fam W0
  have F0 : ∀ i, (F i).cell? ⟨w.heap.size, 0, none⟩ = some (.int .i64 x.lev) := fun i => cell_grown f0 (hFb i)
  have F1 : ∀ i, (F i).cell? ⟨w.heap.size, 1, none⟩ = some (.int .i64 x.idx) := fun i => cell_grown f1 (hFb i)
  have HF : Hid ((∃ i, { W0 with drawn := W0.drawn + 1 } = F i) ∧ (∀ i, Below W0.heap.size W0 (F i)) ∧ (∀ i W, Below W0.heap.size (F i) W → ∃ j, W = F j)) := ⟨hF0, hFb, hFc⟩
  have HB0 : Hid (Below w.heap.size w W0) := hbw
  have HC1 : Hid (∀ i, Calls Tryz.prog 31 #[.int .i64 x.lev] (F i) fun e w' => e = .returned (.string (dec x.lev)) ∧ Below (F i).heap.size (F i) w') := fun i => itoa_any x.lev _ ((hE.below hbw).below (hFb i)) h1
  have HC2 : Hid (∀ i, Calls Tryz.prog 31 #[.int .i64 x.idx] (F i) fun e w' => e = .returned (.string (dec x.idx)) ∧ Below (F i).heap.size (F i) w') := fun i => itoa_any x.idx _ ((hE.below hbw).below (hFb i)) h2
  have s1 := dec_size x.lev h1
  have s2 := dec_size x.idx h2
  have HG : Hid (gname a x = a ++ ⟨#[46]⟩ ++ dec x.lev ++ ⟨#[46]⟩ ++ dec x.idx) := (rfl : gname a x = a ++ ⟨#[46]⟩ ++ dec x.lev ++ ⟨#[46]⟩ ++ dec x.idx)
  clear hF0 hFb hFc hbw f0 f1 hE
  generalize dec x.lev = d1 at *
  generalize dec x.idx = d2 at *
  go_enter Tryz.func9, Tryz.ntmps9
  go_wp2_with fail
  rw [← hW0]
  refine wp_region_fam F HF.out.1 (by kernel_rfl) (by kernel_rfl) ?_
  repeat (go_big_quiet_step (first
    | (go_at_call_of 31 (Value.int .i64 x.lev); refine Calls.mono (HC1.out _) ?_; rintro e' w' ⟨hs, hb⟩; exact ⟨hs, HF.out.2.2 _ _ (hb.mono (HF.out.2.1 _).size)⟩)
    | (go_at_call_of 31 (Value.int .i64 x.idx); refine Calls.mono (HC2.out _) ?_; rintro e' w' ⟨hs, hb⟩; exact ⟨hs, HF.out.2.2 _ _ (hb.mono (HF.out.2.1 _).size)⟩)))
  refine wpQuiet_nil ?_
  rintro _ ⟨i, rfl⟩
  have BF := HB0.out.trans ((HF.out.2.1 i).mono HB0.out.size)
  go_wp2
  go_ret
  exact ⟨by rw [HG.out]; rfl, BF⟩
end Go.Proofs.YtkkbhkpeglcodaaGreatDoor
