/- group.Of. -/
import Derived.Test.YtkkbhkpeglcodaaGreatDoorGrChoose
import Derived.Deep.RegionWith
namespace Go.Proofs.YtkkbhkpeglcodaaGreatDoor
open Go.ChangeShapes Go.WideShapes Go.ChangeAt Go.RowKit
set_option linter.unusedVariables false

def Iv.small (x : Iv) : Prop := 0 ≤ x.lev ∧ x.lev ≤ 8 ∧ 0 ≤ x.idx ∧ x.idx ≤ 256
theorem Iv.small.i64 {x : Iv} (h : x.small) : i64 x.lev ∧ i64 x.idx := by unfold Iv.small at h; unfold Go.Proofs.YtkkbhkpeglcodaaGreatDoor.i64; omega
theorem chain_small (c n : Nat) (hn : n ≤ 8) (hc : c < 2 ^ n) : ∀ x ∈ chain c n, x.small := by
  intro x hx
  unfold chain at hx
  obtain ⟨l, hl, rfl⟩ := List.mem_map.1 hx
  rw [List.mem_range] at hl
  have h1 : c / 2 ^ (n - l) ≤ c := Nat.div_le_self _ _
  have h2 := pow_le_256 hn
  generalize c / 2 ^ (n - l) = q at *
  generalize 2 ^ n = P at *
  exact ⟨by simp, by simp; omega, by simp, by simp; omega⟩
theorem cover_small (hi n : Nat) (hn : n ≤ 8) (hh : hi < 2 ^ n) : ∀ f lo, hi + 1 - lo ≤ f → ∀ x ∈ cover lo hi n, x.small := by
  have h2 := pow_le_256 hn
  have hb : hi < 256 := by generalize 2 ^ n = P at *; omega
  clear h2
  intro f
  induction f with
  | zero => intro lo h x hx; rw [cover_end lo hi n (by omega)] at hx; simp at hx
  | succ f ih =>
    intro lo h x hx
    by_cases hl : lo ≤ hi
    · rw [cover_step lo hi n hl] at hx
      have hp := pow_pos2 (n - lv lo hi n)
      rcases List.mem_cons.1 hx with rfl | hx
      · have h1 := lv_le lo hi n
        have h3 : lo / 2 ^ (n - lv lo hi n) ≤ lo := Nat.div_le_self _ _
        show Iv.small ⟨((lv lo hi n : Nat) : Int), ((lo / 2 ^ (n - lv lo hi n) : Nat) : Int)⟩
        generalize lo / 2 ^ (n - lv lo hi n) = q at *
        generalize lv lo hi n = r at *
        exact ⟨by simp, by simp; omega, by simp, by simp; omega⟩
      · refine ih (lo + 2 ^ (n - lv lo hi n)) ?_ x hx
        generalize 2 ^ (n - lv lo hi n) = P at *
        omega
    · rw [cover_end lo hi n (by omega)] at hx; simp at hx
theorem coverOf_small (lo hi L : Int) : ∀ x ∈ coverOf lo hi L, x.small := by
  intro x hx
  unfold coverOf at hx
  split at hx
  · rename_i h
    obtain ⟨b1, b2, b3, b4⟩ := good_cell.1 h.2
    have hn : L.toNat ≤ 8 := by clear b4; omega
    refine cover_small hi.toNat L.toNat hn ?_ _ lo.toNat (Nat.le_refl _) x hx
    rw [powI] at b4
    generalize 2 ^ L.toNat = P at *
    omega
  · simp at hx
theorem chainOf_small (c L : Int) : ∀ x ∈ chainOf c L, x.small := by
  intro x hx
  unfold chainOf at hx
  split at hx
  · rename_i h
    obtain ⟨b1, b2, b3, b4⟩ := good_cell.1 h
    have hn : L.toNat ≤ 8 := by clear b4; omega
    refine chain_small c.toNat L.toNat hn ?_ x hx
    rw [powI] at b4
    generalize 2 ^ L.toNat = P at *
    omega
  · simp at hx
theorem getD_i64 {xs : List Iv} (h : ∀ x ∈ xs, x.small) : ∀ j, j < xs.length → i64 (xs.getD j iv0).lev ∧ i64 (xs.getD j iv0).idx := fun j hj => by
  have : xs.getD j iv0 ∈ xs := by rw [List.getD_eq_getElem?_getD, List.getElem?_eq_getElem hj]; simp
  exact (h _ this).i64
theorem cover_len1000 (lo hi L : Int) : (coverOf lo hi L).length ≤ 1000 := by
  unfold coverOf; split
  · rename_i h
    have a := good_cell.1 h.1
    have b := good_cell.1 h.2
    by_cases hl : lo.toNat ≤ hi.toNat
    · have : hi.toNat < 2 ^ L.toNat := by
        have h9 := b.2.2.2
        rw [powI] at h9
        generalize 2 ^ L.toNat = P at *
        omega
      have h8 := cover_few lo.toNat hi.toNat L.toNat hl this
      have : L.toNat ≤ 8 := by omega
      omega
    · rw [cover_end _ _ _ (by omega)]; simp
  · simp

/-- The groups of the predicate number b. -/
noncomputable def ofs (az : List At) (f : List Pd) (L : Int) (b : Nat) : List ByteArray := (coverOf (rg az (f.getD b pd0) L).1 (rg az (f.getD b pd0) L).2 L).map (gname (f.getD b pd0).name)
def OfIs (e : Ending) (w w' : World) (az : List At) (f : List Pd) (L : Int) : Prop :=
  (∃ (n b : Nat) (v : Value), L = n ∧ e = .returned (.tuple #[v, .nilIface]) ∧ GoodF az f L ∧ Best az f n b ∧ StRow w w' v (ofs az f L b)) ∨ (∃ t u, e = .returned (.tuple #[.slice none 0 0, .iface t u]) ∧ ¬ GoodF az f L)
theorem ChoiceIs.elim {e : Ending} {az : List At} {f : List Pd} {L : Int} (h : ChoiceIs e az f L) : (∃ n b : Nat, L = n ∧ e = .returned (.tuple #[.int .i64 b, .nilIface]) ∧ GoodF az f L ∧ Best az f n b) ∨ (∃ t u, e = .returned (.tuple #[.int .i64 (-1), .iface t u]) ∧ ¬ GoodF az f L) := h

set_option maxRecDepth 100000 in
set_option maxHeartbeats 2000000 in
theorem of_of (v u : Value) (az : List At) (f : List Pd) (L : Int) (w : World) (hE : GEnv w) (h : AtIn w v az) (hu : PdIn w u f) (hl : az.length ≤ 1000) (hl2 : f.length ≤ 1000) (hz : ∀ i, i < az.length → (az.getD i at0).name.size ≤ maxLen) (hz2 : ∀ i, i < f.length → (f.getD i pd0).str.size ≤ 1000 ∧ (f.getD i pd0).name.size ≤ 1000) :
    Calls Tryz.prog 19 #[v, u, .int .i64 L] w fun e w' => OfIs e w w' az f L ∧ Below w.heap.size w w' := by
  have HC : Hid _ := choose_of v u az f L w h hu hl hl2 hz (fun i hi => (hz2 i hi).1)
  have HA : Hid (AtIn w v az) := h
  have HP : Hid (PdIn w u f) := hu
  have HE : Hid (GEnv w) := hE
  have HZ2 : Hid (∀ i, i < f.length → (f.getD i pd0).str.size ≤ 1000 ∧ (f.getD i pd0).name.size ≤ 1000) := hz2
  obtain ⟨a, cp, rfl, _⟩ := hu.shape
  clear h hu hz hz2 hE
  go_enter Tryz.func19, Tryz.ntmps19
  go_wp2_with fail
  refine Calls.mono HC.out ?_
  rintro e w1 ⟨hCh, b1⟩
  have HB1 : Hid (Below w.heap.size w w1) := b1
  clear b1 HC
  rcases hCh.elim with ⟨n, b, rfl, rfl, hG, hB⟩ | ⟨t, x, rfl, hno⟩
  · have HG : Hid (GoodF az f n) := hG
    have HBE : Hid (Best az f n b) := hB
    have hbl : b < f.length := hB.lt
    obtain ⟨g, rfl, hg, hcc, c0, c1, c2, c3, c4⟩ := (HP.out.below HB1.out).row b hbl
    obtain ⟨z1, z2⟩ := HZ2.out b hbl
    have HOF : Hid (ofs az f n b = (coverOf (rg az (f.getD b pd0) n).1 (rg az (f.getD b pd0) n).2 n).map (gname (f.getD b pd0).name)) := (rfl : ofs az f n b = (coverOf (rg az (f.getD b pd0) n).1 (rg az (f.getD b pd0) n).2 n).map (gname (f.getD b pd0).name))
    obtain ⟨_, k, hk, _⟩ := hG.2.2.2.2.2 b hbl
    have HCE : Hid _ := cells_of v az (f.getD b pd0) n w1 (HA.out.below HB1.out) hl (Nat.le_trans z1 (by omega)) k hk
    generalize f.getD b pd0 = p at *
    clear hCh hG hB hk
    generalize (rg az p n).1 = r1 at *
    generalize (rg az p n).2 = r2 at *
    go_wp2_with fail
    refine Calls.mono HCE.out ?_
    rintro e w2 ⟨rfl, b2⟩
    have HB2 : Hid (Below w.heap.size w w2) := HB1.out.trans (b2.mono HB1.out.size)
    have d0 := (b2.cell (p := ⟨g, b * 5, none⟩) hg).trans c0
    have hg2 : g < w2.heap.size := Nat.lt_of_lt_of_le hg b2.size
    have HE2 : Hid (GEnv w2.drew) := (HE.out.below HB2.out).below ⟨rfl, rfl, rfl, Nat.le_refl _, fun _ _ => rfl⟩
    have HCV : Hid _ := fun W => coverOf_any r1 r2 n W
    have HNM : Hid (∀ (W0 W : World) (vv : Value), GEnv W → IvRow 23 W0 W vv (coverOf r1 r2 n) → Calls Tryz.prog 45 #[.string p.name, vv] W fun e w' => ∃ v', e = .returned v' ∧ StRow W w' v' ((coverOf r1 r2 n).map (gname p.name))) := fun W0 W vv hEW hR => names_of p.name vv _ W hEW hR.isIn (cover_len1000 _ _ _) (by omega) (getD_i64 (coverOf_small _ _ _))
    rw [← HOF.out] at HNM
    obtain ⟨ss, hss⟩ : ∃ ss, ss = ofs az f n b := ⟨_, rfl⟩
    rw [← hss] at HNM
    have HSS : Hid (ss = ofs az f n b) := hss
    clear hss
    generalize coverOf r1 r2 n = xs at *
    clear b2 c0 c1 c2 c3 c4 HCE HOF
    go_wp2_with fail
    go_region_with (first
      | (go_at_call 46; refine Calls.mono (HCV.out _) ?_; rintro e w3 ⟨v3, rfl, r3⟩; have HR3 : Hid _ := r3; have bc3 := fun b o (h : b < w2.heap.size) => r3.bel.cell (p := ⟨b, o, none⟩) h; clear r3)
      | (go_at_call 45; refine Calls.mono (HNM.out _ _ _ (HE2.out.below HR3.out.bel) HR3.out) ?_; rintro e w4 ⟨v4, rfl, r4⟩; have HR4 : Hid _ := r4; clear r4))
    all_goals
      have BD : Below w.heap.size w w2.drew := HB2.out.trans ⟨rfl, rfl, rfl, Nat.le_refl _, fun _ _ => rfl⟩
      have B3 : Below w.heap.size w w3 := BD.trans (HR3.out.bel.mono BD.size)
      have HS4 : Hid (StRow w w4 v4 ss) := StRow.rebase B3 HR4.out
      clear BD B3
      go_wp2
      go_ret2
      exact ⟨.inl ⟨n, b, v4, rfl, rfl, HG.out, HBE.out, by rw [← HSS.out]; exact HS4.out⟩, HS4.out.bel⟩
  · have HNO : Hid (¬ GoodF az f L) := hno
    clear hno hCh
    go_wp2
    go_ret2
    exact ⟨.inr ⟨_, _, rfl, HNO.out⟩, HB1.out⟩
end Go.Proofs.YtkkbhkpeglcodaaGreatDoor
