/- group.check, cells, size, Choose. -/
import Derived.Test.YtkkbhkpeglcodaaGreatDoorGrNames
import Derived.Test.YtkkbhkpeglcodaaGreatDoorValFilter
import Derived.Test.YtkkbhkpeglcodaaGreatDoorDyTake
import Derived.Deep.LoopGhost
namespace Go.Proofs.YtkkbhkpeglcodaaGreatDoor
open Go.ChangeShapes Go.WideShapes Go.ChangeAt Go.RowKit
set_option linter.unusedVariables false

/-- A call's answer is nil just if P. -/
def NilIf (e : Ending) (P : Prop) : Prop := (e = .returned .nilIface ∧ P) ∨ (∃ t u, e = .returned (.iface t u) ∧ ¬ P)
theorem ErrIf.nilIf {e : Ending} {w : World} {P Q : Prop} (h : ErrIf e w P) (hq : P ↔ Q) : NilIf e Q := by
  by_cases hp : P
  · exact .inl ⟨h.t hp, hq.1 hp⟩
  · obtain ⟨b, hb⟩ := h.f hp
    exact .inr ⟨_, _, hb, fun q => hp (hq.2 q)⟩
set_option maxHeartbeats 1000000 in
theorem check_of (v : Value) (az : List At) (L : Int) (w : World) (h : AtIn w v az) (hl : az.length ≤ 1000) (hz : ∀ i, i < az.length → (az.getD i at0).name.size ≤ maxLen) :
    Calls Tryz.prog 37 #[v, .int .i64 L] w fun e w' => NilIf e (0 ≤ L ∧ L ≤ 8 ∧ SchemaOk az) ∧ Below w.heap.size w w' := by
  by_cases h0 : L < 0
  · go_enter Tryz.func37, Tryz.ntmps37
    go_wp2
    go_ret
    exact ⟨.inr ⟨_, _, rfl, fun h => by omega⟩, Below.refl _ _⟩
  · by_cases h1 : 8 < L
    · go_enter Tryz.func37, Tryz.ntmps37
      go_wp2
      go_ret
      exact ⟨.inr ⟨_, _, rfl, fun h => by omega⟩, Below.refl _ _⟩
    · have HC : Hid _ := check_any v az w h hl hz
      clear h hz
      go_enter Tryz.func37, Tryz.ntmps37
      go_wp2_with fail
      refine Calls.mono HC.out ?_
      rintro e w1 ⟨hE, b1⟩
      have HB : Hid (Below w.heap.size w w1) := b1
      rcases hE with ⟨rfl, hC⟩ | ⟨b9, n9, rfl, hC, _⟩
      · have HK : Hid (SchemaOk az) := hC
        clear hC b1
        go_wp2
        go_ret
        exact ⟨.inl ⟨rfl, by omega, by omega, HK.out⟩, HB.out⟩
      · have HK : Hid (¬ SchemaOk az) := hC
        clear hC b1
        go_wp2
        go_ret
        exact ⟨.inr ⟨_, _, rfl, fun h => HK.out h.2.2⟩, HB.out⟩

open Classical in
/-- The place of the attribute of a name. -/
noncomputable def posA (az : List At) (n : ByteArray) : Nat := if h : ∃ k, FindAt az n k then h.choose else 0
theorem posA_is {az : List At} {n : ByteArray} {k : Nat} (h : FindAt az n k) : posA az n = k := by
  have hh : ∃ k, FindAt az n k := ⟨k, h⟩
  unfold posA
  rw [dif_pos hh]
  exact hh.choose_spec.uniq h
noncomputable def rg (az : List At) (p : Pd) (L : Int) : Int × Int := rangeOf (az.getD (posA az p.name) at0) p L
theorem found_at {L : List At} {n : ByteArray} {r : Int} {k : Nat} (h : Found L n r) (g : FindAt L n k) : r = k := by
  rcases h with ⟨k', rfl, h⟩ | ⟨_, h⟩
  · rw [h.uniq g]
  · exact absurd g.2.1 (h k g.1)

set_option maxRecDepth 100000 in
set_option maxHeartbeats 1000000 in
theorem cells_of (v : Value) (az : List At) (p : Pd) (L : Int) (w : World) (h : AtIn w v az) (hl : az.length ≤ 1000) (hs : p.str.size ≤ 9223372036854775000) (k : Nat) (hk : FindAt az p.name k) :
    Calls Tryz.prog 44 #[v, .agg #[.string p.name, .int .i64 p.op, .int .i64 p.lo, .int .i64 p.hi, .string p.str], .int .i64 L] w
      fun e w' => e = .returned (.tuple #[.int .i64 (rg az p L).1, .int .i64 (rg az p L).2]) ∧ Below w.heap.size w w' := by
  have hkl : k < az.length := hk.1
  have HRG : Hid (rg az p L = rangeOf (az.getD k at0) p L) := (by unfold rg; rw [posA_is hk] : rg az p L = rangeOf (az.getD k at0) p L)
  obtain ⟨W0, hW0⟩ : ∃ W0, W0 = w.alloc (.cells #[.string p.name, .int .i64 p.op, .int .i64 p.lo, .int .i64 p.hi, .string p.str] 81) := ⟨_, rfl⟩
  have hbw : Below w.heap.size w W0 := by rw [hW0]; exact dbel1 _ _
  have f0 : W0.cell? ⟨w.heap.size, 0, none⟩ = some (.string p.name) := by rw [hW0]; simp
  have f1 : W0.cell? ⟨w.heap.size, 1, none⟩ = some (.int .i64 p.op) := by rw [hW0]; simp
  have f2 : W0.cell? ⟨w.heap.size, 2, none⟩ = some (.int .i64 p.lo) := by rw [hW0]; simp
  have f3 : W0.cell? ⟨w.heap.size, 3, none⟩ = some (.int .i64 p.hi) := by rw [hW0]; simp
  have f4 : W0.cell? ⟨w.heap.size, 4, none⟩ = some (.string p.str) := by rw [hW0]; simp
  obtain ⟨a, cp, rfl, hsh⟩ := h.shape
  obtain ⟨g, rfl, hg, hcc, c0, c1, c2, c3⟩ := h.row k hkl
  obtain ⟨ι, F, _, hF0, hFb, hFc⟩ := grown_fam W0
  have F0 : ∀ i, (F i).cell? ⟨w.heap.size, 0, none⟩ = some (.string p.name) := fun i => cell_grown f0 (hFb i)
  have F1 : ∀ i, (F i).cell? ⟨w.heap.size, 1, none⟩ = some (.int .i64 p.op) := fun i => cell_grown f1 (hFb i)
  have F2 : ∀ i, (F i).cell? ⟨w.heap.size, 2, none⟩ = some (.int .i64 p.lo) := fun i => cell_grown f2 (hFb i)
  have F3 : ∀ i, (F i).cell? ⟨w.heap.size, 3, none⟩ = some (.int .i64 p.hi) := fun i => cell_grown f3 (hFb i)
  have F4 : ∀ i, (F i).cell? ⟨w.heap.size, 4, none⟩ = some (.string p.str) := fun i => cell_grown f4 (hFb i)
  have HI : Hid (∀ i, AtIn (F i) (.slice (some ⟨g, 0, none⟩) az.length cp) az) := fun i => (h.below hbw).below (hFb i)
  have G0 : ∀ i, (F i).cell? ⟨g, k * 4, none⟩ = some (.string (az.getD k at0).name) := fun i => cell_grown (cell_grown c0 hbw) (hFb i)
  have G1 : ∀ i, (F i).cell? ⟨g, k * 4 + 1, none⟩ = some (.int .i64 (az.getD k at0).kind) := fun i => cell_grown (cell_grown c1 hbw) (hFb i)
  have G2 : ∀ i, (F i).cell? ⟨g, k * 4 + 2, none⟩ = some (.int .i64 (az.getD k at0).mn) := fun i => cell_grown (cell_grown c2 hbw) (hFb i)
  have G3 : ∀ i, (F i).cell? ⟨g, k * 4 + 3, none⟩ = some (.int .i64 (az.getD k at0).mx) := fun i => cell_grown (cell_grown c3 hbw) (hFb i)
  have HF : Hid ((∃ i, { W0 with drawn := W0.drawn + 1 } = F i) ∧ (∀ i, Below W0.heap.size W0 (F i)) ∧ (∀ i W, Below W0.heap.size (F i) W → ∃ j, W = F j)) := ⟨hF0, hFb, hFc⟩
  have HB0 : Hid (Below w.heap.size w W0) := hbw
  have HFK : Hid (FindAt az p.name k) := hk
  have HR : Hid _ := fun W => range_any (az.getD k at0) p L W hs
  have ix : (0 : Int) ≤ (k : Int) ∧ (k : Int) < (az.length : Int) := by omega
  rw [HRG.out]
  generalize (rangeOf (az.getD k at0) p L).1 = r1 at *
  generalize (rangeOf (az.getD k at0) p L).2 = r2 at *
  clear hF0 hFb hFc hbw f0 f1 f2 f3 f4 c0 c1 c2 c3 h hsh hk HRG
  generalize az.getD k at0 = x at *
  go_enter Tryz.func44, Tryz.ntmps44
  go_wp2_with fail
  rw [← hW0]
  refine wp_region_fam F HF.out.1 (by kernel_rfl) (by kernel_rfl) ?_
  repeat (go_big_quiet_step (first
    | (go_at_call 64; refine Calls.mono (find_any _ az p.name _ (HI.out _) hl) ?_; rintro e' w' ⟨⟨r, hs, hfr⟩, hb⟩; rw [found_at hfr HFK.out] at hs; exact ⟨hs, HF.out.2.2 _ _ (hb.mono (HF.out.2.1 _).size)⟩)
    | (go_at_call 68; refine Calls.mono (HR.out _) ?_; rintro e' w' ⟨hs, hb⟩; exact ⟨hs, HF.out.2.2 _ _ (hb.mono (HF.out.2.1 _).size)⟩)))
  refine wpQuiet_nil ?_
  rintro _ ⟨i, rfl⟩
  have BF := HB0.out.trans ((HF.out.2.1 i).mono HB0.out.size)
  go_wp2
  go_ret2
  exact ⟨rfl, BF⟩

theorem rg_bd (az : List At) (p : Pd) (n : Nat) (hn : n ≤ 8) : -1 ≤ (rg az p n).1 ∧ (rg az p n).1 ≤ 255 ∧ -1 ≤ (rg az p n).2 ∧ (rg az p n).2 ≤ 255 := by
  have hp := pow_le_256 hn
  have h1 : ∀ a v, -1 ≤ cellOf a v n ∧ cellOf a v n ≤ 255 := fun a v => by
    have := cellOf_lo a v n hn
    have := cellOf_hi a v n hn
    generalize 2 ^ n = P at *
    omega
  unfold rg rangeOf
  split
  · exact ⟨(h1 _ _).1, (h1 _ _).2, (h1 _ _).1, (h1 _ _).2⟩
  · split
    · exact ⟨(h1 _ _).1, (h1 _ _).2, (h1 _ _).1, (h1 _ _).2⟩
    · exact ⟨(h1 _ _).1, (h1 _ _).2, (h1 _ _).1, (h1 _ _).2⟩
noncomputable def szI (az : List At) (p : Pd) (L : Int) : Int := (rg az p L).2 - (rg az p L).1 + 1
set_option maxHeartbeats 1000000 in
theorem size_of (v : Value) (az : List At) (p : Pd) (n : Nat) (w : World) (hn : n ≤ 8) (h : AtIn w v az) (hl : az.length ≤ 1000) (hs : p.str.size ≤ 9223372036854775000) (k : Nat) (hk : FindAt az p.name k) :
    Calls Tryz.prog 39 #[v, .agg #[.string p.name, .int .i64 p.op, .int .i64 p.lo, .int .i64 p.hi, .string p.str], .int .i64 n] w
      fun e w' => e = .returned (.int .i64 (szI az p n)) ∧ Below w.heap.size w w' := by
  have HC : Hid _ := fun W (h : AtIn W v az) => cells_of v az p n W h hl hs k hk
  have hb := rg_bd az p n hn
  have HSZ : Hid (szI az p n = (rg az p n).2 - (rg az p n).1 + 1) := (rfl : szI az p n = (rg az p n).2 - (rg az p n).1 + 1)
  have HA : Hid (AtIn (w.alloc (.cells #[.string p.name, .int .i64 p.op, .int .i64 p.lo, .int .i64 p.hi, .string p.str] 81)) v az) := h.below (dbel1 _ _)
  rw [HSZ.out]
  generalize (rg az p n).1 = r1 at *
  generalize (rg az p n).2 = r2 at *
  clear h hk HSZ
  go_enter Tryz.func39, Tryz.ntmps39
  go_wp2_with fail
  refine Calls.mono (HC.out _ HA.out) ?_
  rintro e w1 ⟨rfl, b1⟩
  have HB : Hid (Below w.heap.size w w1) := (dbel1 _ _).trans (b1.mono (by simp))
  clear b1
  go_wp2
  go_ret
  exact ⟨rfl, HB.out⟩

/-- The place of the predicate that asks for the fewest cells, the first of several. -/
structure Best (az : List At) (f : List Pd) (n : Nat) (b : Nat) : Prop where
  lt : b < f.length
  all : ∀ j, j < f.length → szI az (f.getD b pd0) n ≤ szI az (f.getD j pd0) n
  fst : ∀ j, j < b → szI az (f.getD b pd0) n < szI az (f.getD j pd0) n
/-- May a filter be chosen from? -/
def GoodF (az : List At) (f : List Pd) (L : Int) : Prop := 0 ≤ L ∧ L ≤ 8 ∧ SchemaOk az ∧ FilterOk az f
/-- Choose's answer. -/
def ChoiceIs (e : Ending) (az : List At) (f : List Pd) (L : Int) : Prop :=
  (∃ n b : Nat, L = n ∧ e = .returned (.tuple #[.int .i64 b, .nilIface]) ∧ GoodF az f L ∧ Best az f n b) ∨ (∃ t u, e = .returned (.tuple #[.int .i64 (-1), .iface t u]) ∧ ¬ GoodF az f L)
theorem NilIf.elim {e : Ending} {P : Prop} (h : NilIf e P) : (e = .returned .nilIface ∧ P) ∨ (∃ t u, e = .returned (.iface t u) ∧ ¬ P) := h

set_option maxRecDepth 100000 in
set_option maxHeartbeats 2000000 in
theorem choose_of (v u : Value) (az : List At) (f : List Pd) (L : Int) (w : World) (h : AtIn w v az) (hu : PdIn w u f) (hl : az.length ≤ 1000) (hl2 : f.length ≤ 1000) (hz : ∀ i, i < az.length → (az.getD i at0).name.size ≤ maxLen) (hz2 : ∀ i, i < f.length → (f.getD i pd0).str.size ≤ 1000) :
    Calls Tryz.prog 17 #[v, u, .int .i64 L] w fun e w' => ChoiceIs e az f L ∧ Below w.heap.size w w' := by
  have HA : Hid (AtIn w v az) := h
  have HP : Hid (PdIn w u f) := hu
  have HZ2 : Hid (∀ i, i < f.length → (f.getD i pd0).str.size ≤ 1000) := hz2
  have HCK : Hid _ := check_of v az L w h hl hz
  obtain ⟨a, cp, rfl, _⟩ := hu.shape
  clear h hu hz hz2
  go_enter Tryz.func17, Tryz.ntmps17
  go_wp2_with fail
  refine Calls.mono HCK.out ?_
  rintro e w1 ⟨hN, b1⟩
  have HB1 : Hid (Below w.heap.size w w1) := b1
  clear b1 HCK
  rcases hN.elim with ⟨rfl, hg0, hg1, hS⟩ | ⟨t, x, rfl, hno⟩
  · have HS : Hid (SchemaOk az) := hS
    obtain ⟨n, rfl⟩ : ∃ n : Nat, L = n := ⟨L.toNat, by omega⟩
    have hn : n ≤ 8 := by omega
    clear hS hN
    go_wp2_with fail
    refine (filter_any _ _ az f _ (HA.out.below HB1.out) (HP.out.below HB1.out) hl hl2 (fun i hi => Nat.le_trans (HZ2.out i hi) (by unfold maxLen; omega))).mono ?_
    rintro e w2 ⟨hE, b2⟩
    have HB2 : Hid (Below w.heap.size w w2) := HB1.out.trans (b2.mono HB1.out.size)
    clear b2 HB1
    rcases hE with ⟨rfl, hF⟩ | ⟨b9, n9, rfl, hF, _⟩
    · have HF : Hid (FilterOk az f) := hF
      have hf1 : 1 ≤ f.length := hF.1
      have HSZ : Hid (∀ i, i < f.length → ∀ W, Below w.heap.size w W → Calls Tryz.prog 39 #[v, .agg #[.string (f.getD i pd0).name, .int .i64 (f.getD i pd0).op, .int .i64 (f.getD i pd0).lo, .int .i64 (f.getD i pd0).hi, .string (f.getD i pd0).str], .int .i64 n] W fun e w' => e = .returned (.int .i64 (szI az (f.getD i pd0) n)) ∧ Below W.heap.size W w') := fun i hi W hW => by
        obtain ⟨_, k, hk, _⟩ := HF.out.2.2 i hi
        exact size_of v az (f.getD i pd0) n W hn (HA.out.below hW) hl (Nat.le_trans (HZ2.out i hi) (by omega)) k hk
      clear hF
      obtain ⟨g, rfl, hg, hcc, c0, c1, c2, c3, c4⟩ := (HP.out.below HB2.out).row 0 (by omega)
      have HS0 : Hid _ := HSZ.out 0 (by omega)
      simp only [Nat.zero_mul, Nat.zero_add] at c0 c1 c2 c3 c4
      obtain ⟨p0, hp0⟩ : ∃ p0, p0 = f.getD 0 pd0 := ⟨_, rfl⟩
      rw [← hp0] at c0 c1 c2 c3 c4 HS0
      have HP0 : Hid (p0 = f.getD 0 pd0) := hp0
      clear hp0
      go_wp2_with fail
      refine Calls.mono (HS0.out _ HB2.out) ?_
      rintro e w3 ⟨rfl, b3⟩
      have HB3 : Hid (Below w.heap.size w w3) := HB2.out.trans (b3.mono HB2.out.size)
      rw [HP0.out]
      clear b3 HB2 c0 c1 c2 c3 c4 HS0 HP0
      go_wp2
      go_loopg [10, 11, 35] f.length (fun kx s10 s11 s35 wr => ∃ i b : Nat, s35 = .int .i64 i ∧ s10 = .int .i64 b ∧ s11 = .int .i64 (szI az (f.getD b pd0) n) ∧ i ≤ f.length ∧ b < f.length ∧ kx = f.length - i ∧ Hid ((∀ j, j < i → szI az (f.getD b pd0) n ≤ szI az (f.getD j pd0) n) ∧ (∀ j, j < b → szI az (f.getD b pd0) n < szI az (f.getD j pd0) n) ∧ b ≤ i) ∧ Hid (Below w.heap.size w wr))
      case atStart => exact ⟨0, 0, rfl, rfl, rfl, Nat.zero_le _, by omega, rfl, (⟨fun j hj => absurd hj (Nat.not_lt_zero _), fun j hj => absurd hj (Nat.not_lt_zero _), Nat.le_refl _⟩ : (∀ j, j < 0 → szI az (f.getD 0 pd0) n ≤ szI az (f.getD j pd0) n) ∧ (∀ j, j < 0 → szI az (f.getD 0 pd0) n < szI az (f.getD j pd0) n) ∧ 0 ≤ 0), HB3⟩
      case round =>
        obtain ⟨i, b, rfl, rfl, rfl, hi, hb, rfl, I, HB⟩ := hrel
        by_cases hlt : i < f.length
        · obtain ⟨g', hg', hgl, hcc', c0, c1, c2, c3, c4⟩ := (HP.out.below HB.out).row i hlt
          simp at hg'
          subst hg'
          have HSi : Hid _ := HSZ.out i hlt
          have HIm : Hid (szI az (f.getD i pd0) n < szI az (f.getD b pd0) n → (∀ j, j < i + 1 → szI az (f.getD i pd0) n ≤ szI az (f.getD j pd0) n) ∧ (∀ j, j < i → szI az (f.getD i pd0) n < szI az (f.getD j pd0) n) ∧ i ≤ i + 1) := fun hh => by
            refine ⟨fun j hj => ?_, fun j hj => ?_, by omega⟩
            · by_cases e : j = i
              · subst e; exact Int.le_refl _
              · have := I.out.1 j (by omega); omega
            · have := I.out.1 j hj; omega
          have HIk : Hid (¬ szI az (f.getD i pd0) n < szI az (f.getD b pd0) n → (∀ j, j < i + 1 → szI az (f.getD b pd0) n ≤ szI az (f.getD j pd0) n) ∧ (∀ j, j < b → szI az (f.getD b pd0) n < szI az (f.getD j pd0) n) ∧ b ≤ i + 1) := fun hh => by
            refine ⟨fun j hj => ?_, I.out.2.1, by have := I.out.2.2; omega⟩
            by_cases e : j = i
            · subst e; omega
            · exact I.out.1 j (by omega)
          have HBX : Hid (Below w.heap.size w (wr.alloc (.cells #[.string (f.getD i pd0).name, .int .i64 (f.getD i pd0).op, .int .i64 (f.getD i pd0).lo, .int .i64 (f.getD i pd0).hi, .string (f.getD i pd0).str] 81))) := HB.out.alloc HB.out.size _
          obtain ⟨z, hz⟩ : ∃ z, z = szI az (f.getD i pd0) n := ⟨_, rfl⟩
          have HZI : Hid (z = szI az (f.getD i pd0) n) := hz
          rw [← hz] at HIm HIk HSi
          obtain ⟨p, hp⟩ : ∃ p, p = f.getD i pd0 := ⟨_, rfl⟩
          rw [← hp] at c0 c1 c2 c3 c4 HSi HBX
          obtain ⟨y, hy⟩ : ∃ y, y = szI az (f.getD b pd0) n := ⟨_, rfl⟩
          have HYI : Hid (y = szI az (f.getD b pd0) n) := hy
          rw [← hy] at HIm HIk ⊢
          clear hz hp hy
          go_wp2_with fail
          refine Calls.mono (HSi.out _ HBX.out) ?_
          rintro e w4 ⟨rfl, b4⟩
          have HB4 : Hid (Below w.heap.size w w4) := HBX.out.trans (b4.mono HBX.out.size)
          clear b4 c0 c1 c2 c3 c4 HBX HSi
          by_cases hzy : z < y
          · have J := HIm.out hzy
            have J : Hid ((∀ j, j < i + 1 → szI az (f.getD i pd0) n ≤ szI az (f.getD j pd0) n) ∧ (∀ j, j < i → szI az (f.getD i pd0) n < szI az (f.getD j pd0) n) ∧ i ≤ i + 1) := by rw [HZI.out] at J; exact J
            go_wp2
            go_roundg (f.length - (i + 1))
            case measure => omega
            case rel => exact ⟨i + 1, i, by go_num, rfl, by rw [HZI.out], by omega, hlt, rfl, J, HB4⟩
          · have J := HIk.out (by omega)
            have J : Hid ((∀ j, j < i + 1 → szI az (f.getD b pd0) n ≤ szI az (f.getD j pd0) n) ∧ (∀ j, j < b → szI az (f.getD b pd0) n < szI az (f.getD j pd0) n) ∧ b ≤ i + 1) := by rw [HYI.out] at J; exact J
            go_wp2
            go_roundg (f.length - (i + 1))
            case measure => omega
            case rel => exact ⟨i + 1, b, by go_num, rfl, by rw [HYI.out], by omega, hb, rfl, J, HB4⟩
        · obtain rfl : i = f.length := by omega
          have HBest : Hid (Best az f n b) := ⟨hb, I.out.1, I.out.2.1⟩
          go_wp2
          go_ret2
          exact ⟨.inl ⟨n, b, rfl, rfl, ⟨by omega, by omega, HS.out, HF.out⟩, HBest.out⟩, HB.out⟩
    · have HF : Hid (¬ FilterOk az f) := hF
      clear hF
      go_wp2
      go_ret2
      exact ⟨.inr ⟨_, _, rfl, fun h => HF.out h.2.2.2⟩, HB2.out⟩
  · have HNO : Hid (¬ (0 ≤ L ∧ L ≤ 8 ∧ SchemaOk az)) := hno
    clear hno hN
    go_wp2
    go_ret2
    exact ⟨.inr ⟨_, _, rfl, fun h => HNO.out ⟨h.1, h.2.1, h.2.2.1⟩⟩, HB1.out⟩
end Go.Proofs.YtkkbhkpeglcodaaGreatDoor
