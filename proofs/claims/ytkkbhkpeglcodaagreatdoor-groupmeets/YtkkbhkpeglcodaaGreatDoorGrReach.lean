/- group.Reach. -/
import Derived.Test.YtkkbhkpeglcodaaGreatDoorGrOf
import Derived.Test.YtkkbhkpeglcodaaGreatDoorValEvent
import Derived.Deep.RegionLaw
import Derived.Deep.RegionHeld3
import Derived.Deep.CutBlock
import Derived.Deep.DeepCutAuto
namespace Go.Proofs.YtkkbhkpeglcodaaGreatDoor
open Go.ChangeShapes Go.WideShapes Go.ChangeAt Go.RowKit
set_option linter.unusedVariables false

/-- The groups of an event's attribute number i. -/
def rchAt (az : List At) (vs : List Vl) (L : Int) (i : Nat) : List ByteArray := (chainOf (cellOf (az.getD i at0) (vs.getD i vl0) L) L).map (gname (az.getD i at0).name)
def reachs (az : List At) (vs : List Vl) (L : Int) : Nat → List ByteArray
  | 0 => []
  | k + 1 => reachs az vs L k ++ rchAt az vs L k
theorem rchAt_len (az : List At) (vs : List Vl) (L : Int) (i : Nat) : (rchAt az vs L i).length ≤ 9 := by
  unfold rchAt; rw [List.length_map]; exact chainOf_len _ _
theorem reachs_len (az : List At) (vs : List Vl) (L : Int) (k : Nat) : (reachs az vs L k).length ≤ 9 * k := by
  induction k with
  | zero => simp [reachs]
  | succ k ih => simp only [reachs, List.length_append]; have := rchAt_len az vs L k; omega
def GoodR (az : List At) (vs : List Vl) (m : Nat) (L : Int) : Prop := 0 ≤ L ∧ L ≤ 8 ∧ SchemaOk az ∧ EventOk az vs m
def ReachIs (e : Ending) (w w' : World) (az : List At) (vs : List Vl) (m : Nat) (L : Int) : Prop :=
  (∃ v : Value, e = .returned (.tuple #[v, .nilIface]) ∧ GoodR az vs m L ∧ StRow w w' v (reachs az vs L az.length)) ∨ (∃ t u, e = .returned (.tuple #[.slice none 0 0, .iface t u]) ∧ ¬ GoodR az vs m L)

set_option maxRecDepth 100000 in
set_option maxHeartbeats 2000000 in
theorem reach_of (v u : Value) (az : List At) (vs : List Vl) (pay : ByteArray) (L : Int) (w : World) (hE : GEnv w) (h : AtIn w v az) (hu : VlIn w u vs) (hl : az.length ≤ 1000) (hl2 : vs.length ≤ 1000) (hp : pay.size ≤ maxLen) (hz : ∀ i, i < az.length → (az.getD i at0).name.size ≤ 1000) (hz2 : ∀ i, i < vs.length → (vs.getD i vl0).str.size ≤ 1000) :
    Calls Tryz.prog 21 #[v, .agg #[u, .string pay], .int .i64 L] w fun e w' => ReachIs e w w' az vs pay.size L ∧ Below w.heap.size w w' := by
  obtain ⟨i0, hi, hz0, hz1, hz2'⟩ := dinfo Tryz.infoSt
  obtain ⟨W0, hW0⟩ : ∃ W0, W0 = w.alloc (.cells #[u, .string pay] 48) := ⟨_, rfl⟩
  have hbw : Below w.heap.size w W0 := by rw [hW0]; exact dbel1 _ _
  have f0 : W0.cell? ⟨w.heap.size, 0, none⟩ = some u := by rw [hW0]; simp
  have f1 : W0.cell? ⟨w.heap.size, 1, none⟩ = some (.string pay) := by rw [hW0]; simp
  have HZ : Hid (∀ i, i < az.length → (az.getD i at0).name.size ≤ 1000) := hz
  have HZ2 : Hid (∀ i, i < vs.length → (vs.getD i vl0).str.size ≤ 1000) := hz2
  have HA : Hid (AtIn W0 v az) := h.below hbw
  have HV : Hid (VlIn W0 u vs) := hu.below hbw
  have HE : Hid (GEnv W0) := hE.below hbw
  have HB0 : Hid (Below w.heap.size w W0) := hbw
  have HF0 : Hid (W0.cell? ⟨w.heap.size, 0, none⟩ = some u ∧ W0.cell? ⟨w.heap.size, 1, none⟩ = some (.string pay)) := ⟨f0, f1⟩
  have HCK : Hid _ := check_of v az L W0 HA.out hl (fun i hi => Nat.le_trans (hz i hi) (by unfold maxLen; omega))
  obtain ⟨a, cp, rfl, _⟩ := h.shape
  obtain ⟨au, cu, rfl, _⟩ := hu.shape
  clear h hu hz hz2 hE hbw f0 f1
  go_enter Tryz.func21, Tryz.ntmps21
  go_wp2_with fail
  rw [← hW0]
  clear hW0
  refine Calls.mono HCK.out ?_
  rintro e w1 ⟨hN, b1⟩
  have HB1 : Hid (Below W0.heap.size W0 w1) := b1
  clear b1 HCK
  rcases hN.elim with ⟨rfl, hg0, hg1, hS⟩ | ⟨t, x, rfl, hno⟩
  · have HS : Hid (SchemaOk az) := hS
    obtain ⟨n, rfl⟩ : ∃ n : Nat, L = n := ⟨L.toNat, by omega⟩
    have hn : n ≤ 8 := by omega
    have k0 := cell_grown HF0.out.1 HB1.out
    have k1 := cell_grown HF0.out.2 HB1.out
    have kl : w.heap.size < w1.heap.size := cell_block k0
    clear hS hN
    go_wp2_with fail
    refine (event_any _ _ az vs pay _ (HA.out.below HB1.out) (HV.out.below HB1.out) hl hl2 hp (fun i hi => Nat.le_trans (HZ2.out i hi) (by unfold maxLen; omega))).mono ?_
    rintro e w2 ⟨hEv, b2⟩
    have HB2 : Hid (Below W0.heap.size W0 w2) := HB1.out.trans (b2.mono HB1.out.size)
    clear b2 HB1 k0 k1 kl
    rcases hEv with ⟨rfl, hF⟩ | ⟨b9, n9, rfl, hF, _⟩
    · have HF : Hid (EventOk az vs pay.size) := hF
      have hvl : vs.length = az.length := hF.1
      have ha4 : az.length ≤ 4 := HS.out.2.1
      have HN0 : Hid (StRow W0 w2 (.slice none 0 0) (reachs az vs n 0)) := StRow.nil _ _ HB2.out
      clear hF
      go_wp2
      go_loopg [10, 28] az.length (fun kx s10 s28 wr => ∃ i : Nat, s28 = .int .i64 i ∧ i ≤ az.length ∧ kx = az.length - i ∧ (∃ a c m, s10 = .slice a m c) ∧ Hid (StRow W0 wr s10 (reachs az vs n i)))
      case atStart => exact ⟨0, rfl, Nat.zero_le _, rfl, ⟨_, _, _, rfl⟩, HN0⟩
      case round =>
        obtain ⟨i, rfl, hi4, rfl, ⟨a1, c1, m1, rfl⟩, R⟩ := hrel
        by_cases hlt : i < az.length
        · have hB := R.out.bel
          obtain ⟨g, hg0', hg, hcc, c0, c1', c2, c3⟩ := (HA.out.below hB).row i hlt
          subst hg0'
          obtain ⟨gu, hgu0, hgu, hccu, n0, n1⟩ := (HV.out.below hB).row i (by omega)
          subst hgu0
          have k0 := cell_grown HF0.out.1 hB
          have kl : w.heap.size < wr.heap.size := cell_block k0
          have hsn := HZ.out i hlt
          have hsv := HZ2.out i (by omega)
          have HSTEP : Hid (reachs az vs n (i + 1) = reachs az vs n i ++ rchAt az vs n i) := (rfl : reachs az vs n (i + 1) = reachs az vs n i ++ rchAt az vs n i)
          have HRC : Hid (rchAt az vs n i = (chainOf (cellOf (az.getD i at0) (vs.getD i vl0) n) n).map (gname (az.getD i at0).name)) := (rfl : rchAt az vs n i = (chainOf (cellOf (az.getD i at0) (vs.getD i vl0) n) n).map (gname (az.getD i at0).name))
          have hl1 := reachs_len az vs n i
          have hl3 := rchAt_len az vs n i
          obtain ⟨x, hx⟩ : ∃ x, x = az.getD i at0 := ⟨_, rfl⟩
          obtain ⟨y, hy⟩ : ∃ y, y = vs.getD i vl0 := ⟨_, rfl⟩
          rw [← hx] at c0 c1' c2 c3 hsn HRC
          rw [← hy] at n0 n1 hsv HRC
          clear hx hy
          have HCL : Hid _ := fun W => cell_any x y n W (by unfold maxLen; omega)
          generalize cellOf x y n = cc at *
          have HCH : Hid _ := fun W => chainOf_any cc n W
          have HNM : Hid (∀ (W0 W : World) (vv : Value), GEnv W → IvRow 23 W0 W vv (chainOf cc n) → Calls Tryz.prog 45 #[.string x.name, vv] W fun e w' => ∃ v', e = .returned v' ∧ StRow W w' v' ((chainOf cc n).map (gname x.name))) := fun W0 W vv hEW hR => names_of x.name vv _ W hEW hR.isIn (by have := chainOf_len cc n; omega) (by omega) (getD_i64 (chainOf_small _ _))
          rw [← HRC.out] at HNM
          generalize chainOf cc n = xs at *
          generalize rchAt az vs n i = ss at *
          obtain ⟨old, hold⟩ : ∃ old, old = reachs az vs n i := ⟨_, rfl⟩
          rw [← hold] at R HSTEP hl1
          clear hold HRC
          obtain ⟨am, cm, hvm⟩ := R.out.shape
          simp at hvm
          obtain ⟨rfl, rfl, rfl⟩ := hvm
          obtain ⟨W1, hW1⟩ : ∃ W1, W1 = wr.alloc (.cells #[.string x.name, .int .i64 x.kind, .int .i64 x.mn, .int .i64 x.mx] 79) := ⟨_, rfl⟩
          have b1 : Below wr.heap.size wr W1 := by rw [hW1]; exact dbel1 _ _
          have f0 : W1.cell? ⟨wr.heap.size, 0, none⟩ = some (.string x.name) := by rw [hW1]; simp
          have f1 : W1.cell? ⟨wr.heap.size, 1, none⟩ = some (.int .i64 x.kind) := by rw [hW1]; simp
          have f2 : W1.cell? ⟨wr.heap.size, 2, none⟩ = some (.int .i64 x.mn) := by rw [hW1]; simp
          have f3 : W1.cell? ⟨wr.heap.size, 3, none⟩ = some (.int .i64 x.mx) := by rw [hW1]; simp
          obtain ⟨ι, F, _, hF0, hFb, hFc⟩ := grown_fam W1
          have F0 : ∀ j, (F j).cell? ⟨wr.heap.size, 0, none⟩ = some (.string x.name) := fun j => cell_grown f0 (hFb j)
          have F1 : ∀ j, (F j).cell? ⟨wr.heap.size, 1, none⟩ = some (.int .i64 x.kind) := fun j => cell_grown f1 (hFb j)
          have F2 : ∀ j, (F j).cell? ⟨wr.heap.size, 2, none⟩ = some (.int .i64 x.mn) := fun j => cell_grown f2 (hFb j)
          have F3 : ∀ j, (F j).cell? ⟨wr.heap.size, 3, none⟩ = some (.int .i64 x.mx) := fun j => cell_grown f3 (hFb j)
          have G0 : ∀ j, (F j).cell? ⟨w.heap.size, 0, none⟩ = some (.slice (some ⟨gu, 0, none⟩) vs.length cu) := fun j => cell_grown (cell_grown k0 b1) (hFb j)
          have G1 : ∀ j, (F j).cell? ⟨gu, i * 2, none⟩ = some (.int .i64 y.num) := fun j => cell_grown (cell_grown n0 b1) (hFb j)
          have G2 : ∀ j, (F j).cell? ⟨gu, i * 2 + 1, none⟩ = some (.string y.str) := fun j => cell_grown (cell_grown n1 b1) (hFb j)
          have HFF : Hid ((∃ i, { W1 with drawn := W1.drawn + 1 } = F i) ∧ (∀ i, Below W1.heap.size W1 (F i)) ∧ (∀ i W, Below W1.heap.size (F i) W → ∃ j, W = F j)) := ⟨hF0, hFb, hFc⟩
          have R1 : Hid (StRow W0 W1 (.slice a1 old.length c1) old) := R.out.carry b1
          have ix : (0 : Int) ≤ (i : Int) ∧ (i : Int) < (vs.length : Int) := by omega
          clear hF0 hFb hFc f1 f2 f3 b1 k0 n0 n1 hB
          go_wp2_with fail
          rw [← hW1]
          clear hW1 c0 c1' c2 c3
          refine wp_region_fam F HFF.out.1 (by kernel_rfl) (by kernel_rfl) ?_
          repeat (go_big_quiet_step ((go_at_call 49; refine Calls.mono (HCL.out _) ?_; rintro e' w' ⟨hs, hb⟩; exact ⟨hs, HFF.out.2.2 _ _ (hb.mono (HFF.out.2.1 _).size)⟩)))
          refine wpQuiet_nil ?_
          rintro _ ⟨j, rfl⟩
          have R2 : Hid (StRow W0 (F j) (.slice a1 old.length c1) old) := R1.out.carry (HFF.out.2.1 j)
          have d0 := F0 j
          generalize F j = W2 at *
          have hd : wr.heap.size < W2.heap.size := cell_block d0
          clear F0 F1 F2 F3 G0 G1 G2 HFF R1 f0
          have hle2 := R2.out.le
          have R2d : Hid (StRow W0 W2.drew (.slice a1 old.length c1) old) := R2.out.carry ⟨rfl, rfl, rfl, Nat.le_refl _, fun _ _ => rfl⟩
          have d0d : W2.drew.cell? ⟨wr.heap.size, 0, none⟩ = some (.string x.name) := by simpa using d0
          have hdd : wr.heap.size < W2.drew.heap.size := hd
          have HE2 : Hid (GEnv W2.drew) := HE.out.below R2d.out.bel
          go_wp2_with fail
          have hfar : some wr.heap.size ≠ (Value.slice a1 old.length c1).ownBlock := fun e => by
            have := (R.out.row.lt _ e.symm).2; omega
          have HEW : Hid (GEnv W2) := HE.out.below R2.out.bel
          go_region_held3 (fun w' => w'.cell? ⟨wr.heap.size, 0, none⟩ = some (.string x.name))
            (first
              | go_keep
              | assumption)
            (first
              | (go_at_call 50; refine Calls.mono (HCH.out _) ?_; rintro e w3 ⟨v3, rfl, r3⟩
                 have HR3 : Hid (IvRow 23 W2 w3 v3 xs) := ⟨r3.row, ⟨r3.bel.os, r3.bel.tape, r3.bel.output, r3.bel.size, r3.bel.block⟩⟩
                 have q0 : w3.cell? ⟨wr.heap.size, 0, none⟩ = some (.string x.name) := (HR3.out.bel.cell (p := ⟨wr.heap.size, 0, none⟩) hd).trans d0
                 clear r3)
              | (go_at_call 45; refine Calls.mono (HNM.out _ _ _ ?_ HR3.out) ?_; exact HEW.out.below HR3.out.bel; rintro e w4 ⟨v4, rfl, r4⟩
                 have HR4 : Hid (StRow w3 w4 v4 ss) := r4
                 have HO4 : Hid (StRow W0 w4 (.slice a1 old.length c1) old) := (R2.out.carry HR3.out.bel).carry r4.bel
                 have q4 : w4.cell? ⟨wr.heap.size, 0, none⟩ = some (.string x.name) := (r4.bel.cell (p := ⟨wr.heap.size, 0, none⟩) (Nat.lt_of_lt_of_le hd HR3.out.bel.size)).trans q0
                 have hd4 : wr.heap.size < w4.heap.size := cell_block q4
                 clear r4)
              | (have hguard := HO4; clear hguard; refine step_own_srcS _ (by rfl) _ _ 62 62 (by rfl) W0.heap.size 9 i0 _ 16 Tryz.underlying62 hi hz0 hz1 hz2' rfl _ _ _ (by rfl) HO4.out.row _ ss.length _ (by rfl) (srcS_own HR4.out.row) (by unfold maxLen; omega) (by omega) HO4.out.le ?_; intro v5 w5 ha
                 have HS5 : Hid (StRow W0 w5 v5 (old ++ ss)) := HO4.out.stepL ha
                 have hsh5 := ha.shape
                 have q5 : w5.cell? ⟨wr.heap.size, 0, none⟩ = some (.string x.name) := (ha.grown.cell_far ⟨wr.heap.size, 0, none⟩ hd4 hfar).trans q4
                 clear ha))
          all_goals
            obtain ⟨a5, c5, hv5⟩ := hsh5
            subst hv5
            rw [← HSTEP.out] at HS5
            go_wp2
            go_roundg (az.length - (i + 1))
            case measure => omega
            case rel => exact ⟨i + 1, by go_num, by omega, rfl, ⟨_, _, _, rfl⟩, HS5⟩
        · obtain rfl : i = az.length := by omega
          have HSF : Hid (StRow w wr (.slice a1 m1 c1) (reachs az vs n az.length)) := StRow.rebase HB0.out R.out
          go_wp2
          go_ret2
          exact ⟨.inl ⟨_, rfl, ⟨by omega, by omega, HS.out, HF.out⟩, HSF.out⟩, HSF.out.bel⟩
    · have HF : Hid (¬ EventOk az vs pay.size) := hF
      have HBw : Hid (Below w.heap.size w w2) := HB0.out.trans (HB2.out.mono HB0.out.size)
      clear hF
      go_wp2
      go_ret2
      exact ⟨.inr ⟨_, _, rfl, fun h => HF.out h.2.2.2⟩, HBw.out⟩
  · have HNO : Hid (¬ (0 ≤ L ∧ L ≤ 8 ∧ SchemaOk az)) := hno
    have HBw : Hid (Below w.heap.size w w1) := HB0.out.trans (HB1.out.mono HB0.out.size)
    clear hno hN
    go_wp2
    go_ret2
    exact ⟨.inr ⟨_, _, rfl, fun h => HNO.out ⟨h.1, h.2.1, h.2.2.1⟩⟩, HBw.out⟩
end Go.Proofs.YtkkbhkpeglcodaaGreatDoor
