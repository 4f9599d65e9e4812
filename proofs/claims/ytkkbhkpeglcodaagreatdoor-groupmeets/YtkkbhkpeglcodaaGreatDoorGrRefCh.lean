/- The document's groups (wigwagref08): Choose. -/
import Derived.Test.YtkkbhkpeglcodaaGreatDoorGrBad
import Derived.Test.YtkkbhkpeglcodaaGreatDoorDyRef
namespace Go.Proofs.YtkkbhkpeglcodaaGreatDoor
open Go.ChangeShapes Go.WideShapes Go.ChangeAt Go.RowKit
set_option linter.unusedVariables false

/-- What the document's Choose answers. -/
def RChoice (e : Ending) (az : List At) (f : List Pd) (L : Int) : Prop :=
  (∃ n b : Nat, L = n ∧ e = .returned (.tuple #[.int .i64 b, .int .i64 0]) ∧ GoodF az f L ∧ Best az f n b) ∨ (∃ c : Int, e = .returned (.tuple #[.int .i64 (-1), .int .i64 c]) ∧ ¬ c = 0 ∧ ChkF az f L c)
theorem RChoice.bad {e : Ending} {az : List At} {f : List Pd} {L : Int} (c : Int) (h : e = .returned (.tuple #[.int .i64 (-1), .int .i64 c])) (hc : ¬ c = 0) (hk : ChkF az f L c) : RChoice e az f L := Or.inr ⟨c, h, hc, hk⟩
/-- What one look at a predicate wants: its cells, its attribute's, the two calls. -/
structure Look (v : Value) (az : List At) (w : World) (p : Pd) (x : At) (k : Nat) (n : Nat) (r1 r2 : Int) : Prop where
  find : ∀ W, Below w.heap.size w W → Calls Tryz.prog 43 #[v, .string p.name] W fun e w' => e = .returned (.int .i64 k) ∧ Below W.heap.size W w'
  range : ∀ W, Calls Tryz.prog 42 #[.agg #[.string x.name, .int .i64 x.kind, .int .i64 x.mn, .int .i64 x.mx], .agg #[.string p.name, .int .i64 p.op, .int .i64 p.lo, .int .i64 p.hi, .string p.str], .int .i64 n] W fun e w' => e = .returned (.tuple #[.int .i64 r1, .int .i64 r2]) ∧ Below W.heap.size W w'
  size : szI az p n = r2 - r1 + 1
  bd : -1 ≤ r1 ∧ r1 ≤ 255 ∧ -1 ≤ r2 ∧ r2 ≤ 255
theorem look_of (v : Value) (az : List At) (p : Pd) (k n : Nat) (w : World) (h : AtIn w v az) (hl : az.length ≤ 1000) (hn : n ≤ 8) (hs : p.str.size ≤ 9223372036854775000) (hk : FindAt az p.name k) :
    Look v az w p (az.getD k at0) k n (rg az p n).1 (rg az p n).2 := by
  have HRG : rg az p n = rangeOf (az.getD k at0) p n := by unfold rg; rw [posA_is hk]
  refine ⟨fun W hW => ?_, fun W => ?_, rfl, rg_bd az p n hn⟩
  · refine (rfind5_any v az p.name W (h.below hW) hl).mono ?_
    rintro e w' ⟨⟨r, rfl, hr⟩, hb⟩
    rw [found_at hr hk]
    exact ⟨rfl, hb⟩
  · rw [HRG]
    exact rrange_any (az.getD k at0) p n W hs

set_option maxRecDepth 100000 in
set_option maxHeartbeats 4000000 in
theorem rchoose8_any (v u : Value) (az : List At) (f : List Pd) (L : Int) (w : World) (h : AtIn w v az) (hu : PdIn w u f) (hl : az.length ≤ 1000) (hl2 : f.length ≤ 1000) (hz : ∀ i, i < az.length → (az.getD i at0).name.size ≤ maxLen) (hz2 : ∀ i, i < f.length → (f.getD i pd0).str.size ≤ 1000) :
    Calls Tryz.prog 18 #[v, u, .int .i64 L] w fun e w' => RChoice e az f L ∧ Below w.heap.size w w' := by
  have HA : Hid (AtIn w v az) := h
  have HP : Hid (PdIn w u f) := hu
  have HZ2 : Hid (∀ i, i < f.length → (f.getD i pd0).str.size ≤ 1000) := hz2
  have HCK : Hid _ := rcheck8_any v az L w h hl hz
  obtain ⟨a, cp, rfl, _⟩ := h.shape
  obtain ⟨b', cq, rfl, _⟩ := hu.shape
  clear h hu hz hz2
  go_enter Tryz.func18, Tryz.ntmps18
  go_wp2_with fail
  refine Calls.mono HCK.out ?_
  rintro e w1 ⟨⟨c, rfl, hC⟩, b1⟩
  have HB1 : Hid (Below w.heap.size w w1) := b1
  clear b1 HCK
  by_cases hc : c = 0
  case neg =>
    have HC : Hid (Chk az L c) := hC
    have hcb : (c == 0) = false := by simpa using hc
    clear hC
    go_wp2
    go_ret2
    exact ⟨RChoice.bad c rfl hc (Or.inl ⟨hc, HC.out⟩), HB1.out⟩
  subst hc
  have HC : Hid (Chk az L 0) := hC
  clear hC
  go_wp2_with fail
  refine Calls.mono (rfilter5_any _ _ az f _ (HA.out.below HB1.out) (HP.out.below HB1.out) hl hl2 (fun i hi => Nat.le_trans (HZ2.out i hi) (by unfold maxLen; omega))) ?_
  rintro e w2 ⟨⟨r, rfl, hr⟩, b2⟩
  have HB2 : Hid (Below w.heap.size w w2) := HB1.out.trans (b2.mono HB1.out.size)
  clear b2 HB1
  rcases hr with ⟨rfl, hF⟩ | ⟨hr, hF⟩
  case inr =>
    have HF : Hid (¬ FilterOk az f) := hF
    clear hF
    go_wp2
    go_ret2
    exact ⟨RChoice.bad 3 rfl (by omega) (Or.inr ⟨HC.out, Or.inr ⟨HF.out, rfl⟩⟩), HB2.out⟩
  have HF : Hid (FilterOk az f) := hF
  have hf1 : 1 ≤ f.length := hF.1
  obtain ⟨hL0, hL8, hSO⟩ := chk_good HC.out
  have HSO : Hid (SchemaOk az) := hSO
  have ha1 : 1 ≤ az.length := hSO.1
  obtain ⟨n, rfl⟩ : ∃ n : Nat, L = n := ⟨L.toNat, by omega⟩
  have hn : n ≤ 8 := by omega
  obtain ⟨gf, hgf, hgfl, hcq, _⟩ := (HP.out.below HB2.out).row 0 (by omega)
  obtain ⟨ga, hga, hgal, hcp, _⟩ := (HA.out.below HB2.out).row 0 (by omega)
  subst hgf hga
  have HLK : Hid (∀ i, i < f.length → ∃ k, k < az.length ∧ ∀ W, Below w.heap.size w W → Look (.slice (some ⟨ga, 0, none⟩) az.length cp) az W (f.getD i pd0) (az.getD k at0) k n (rg az (f.getD i pd0) n).1 (rg az (f.getD i pd0) n).2) := fun i hi => by
    obtain ⟨_, k, hk, _⟩ := HF.out.2.2 i hi
    exact ⟨k, hk.1, fun W hW => look_of _ az _ k n W (HA.out.below hW) hl hn (Nat.le_trans (HZ2.out i hi) (by omega)) hk⟩
  clear hF hSO hgfl hgal HC
  go_wp2
  go_loopg [9, 31] f.length (fun kx s9 s31 wr => ∃ i b : Nat, s31 = .int .i64 i ∧ s9 = .int .i64 b ∧ i ≤ f.length ∧ b < f.length ∧ kx = f.length - i ∧ Hid ((∀ j, j < i → szI az (f.getD b pd0) n ≤ szI az (f.getD j pd0) n) ∧ (∀ j, j < b → szI az (f.getD b pd0) n < szI az (f.getD j pd0) n) ∧ b ≤ i) ∧ Hid (Below w.heap.size w wr))
  case atStart => exact ⟨0, 0, rfl, rfl, Nat.zero_le _, by omega, rfl, (⟨fun j hj => absurd hj (Nat.not_lt_zero _), fun j hj => absurd hj (Nat.not_lt_zero _), Nat.le_refl _⟩ : (∀ j, j < 0 → szI az (f.getD 0 pd0) n ≤ szI az (f.getD j pd0) n) ∧ (∀ j, j < 0 → szI az (f.getD 0 pd0) n < szI az (f.getD j pd0) n) ∧ 0 ≤ 0), HB2⟩
  case round =>
    obtain ⟨i, b, rfl, rfl, hi, hb, rfl, I, HB⟩ := hrel
    by_cases hlt : i < f.length
    case neg =>
      obtain rfl : i = f.length := by omega
      have HBest : Hid (Best az f n b) := ⟨hb, I.out.1, I.out.2.1⟩
      go_wp2
      go_ret2
      exact ⟨Or.inl ⟨n, b, rfl, rfl, ⟨by omega, by omega, HSO.out, HF.out⟩, HBest.out⟩, HB.out⟩
    have HIm : Hid (szI az (f.getD i pd0) n < szI az (f.getD b pd0) n → (∀ j, j < i + 1 → szI az (f.getD i pd0) n ≤ szI az (f.getD j pd0) n) ∧ (∀ j, j < i → szI az (f.getD i pd0) n < szI az (f.getD j pd0) n) ∧ i ≤ i + 1) := fun hh => by
      refine ⟨fun j hj => ?_, fun j hj => ?_, by omega⟩
      · by_cases e : j = i
        · subst e; exact Int.le_refl _
        · have := I.out.1 j (by omega); omega
      · have := I.out.1 j hj; omega
    have HIk : Hid (¬ szI az (f.getD i pd0) n < szI az (f.getD b pd0) n → (∀ j, j < i + 1 → szI az (f.getD b pd0) n ≤ szI az (f.getD j pd0) n) ∧ (∀ j, j < b → szI az (f.getD b pd0) n < szI az (f.getD j pd0) n) ∧ b ≤ i + 1) := fun hh => by
      refine ⟨fun j hj => ?_, I.out.2.1, by have := I.out.2.2; omega⟩
      by_cases e : j = i
      · subst e; omega
      · exact I.out.1 j (by omega)
    clear I
    obtain ⟨gz, hgz, hgl, _, c0, c1, c2, c3, c4⟩ := (HP.out.below HB.out).row i hlt
    have hgq : gz = gf := by simpa using hgz.symm
    subst hgq
    obtain ⟨k, hkl, hLK⟩ := HLK.out i hlt
    obtain ⟨gy, hgy, hgyl, _, n0, n1, n2, n3⟩ := (HA.out.below HB.out).row k hkl
    have hgr : gy = ga := by simpa using hgy.symm
    subst hgr
    have HL : Hid _ := hLK wr HB.out
    have HS1 : Hid (szI az (f.getD i pd0) n = (rg az (f.getD i pd0) n).2 - (rg az (f.getD i pd0) n).1 + 1) := HL.out.size
    have hbda := HL.out.bd
    clear hLK
    generalize (rg az (f.getD i pd0) n).1 = d1 at HL HS1 hbda
    generalize (rg az (f.getD i pd0) n).2 = d2 at HL HS1 hbda
    generalize az.getD k at0 = x at n0 n1 n2 n3 HL
    obtain ⟨p, hp⟩ : ∃ p, p = f.getD i pd0 := ⟨_, rfl⟩
    rw [← hp] at c0 c1 c2 c3 c4 HL
    clear hp
    obtain ⟨xn, xk, xm, xx⟩ := x
    obtain ⟨pn, op, lo, hi', st⟩ := p
    simp only at c0 c1 c2 c3 c4 n0 n1 n2 n3
    obtain ⟨ι, F, _, hF0, hFb, hFc⟩ := grown_fam wr
    have f0 : ∀ t, (F t).cell? ⟨gz, i * 5, none⟩ = some (.string pn) := fun t => cell_grown c0 (hFb t)
    have f1 : ∀ t, (F t).cell? ⟨gz, i * 5 + 1, none⟩ = some (.int .i64 op) := fun t => cell_grown c1 (hFb t)
    have f2 : ∀ t, (F t).cell? ⟨gz, i * 5 + 2, none⟩ = some (.int .i64 lo) := fun t => cell_grown c2 (hFb t)
    have f3 : ∀ t, (F t).cell? ⟨gz, i * 5 + 3, none⟩ = some (.int .i64 hi') := fun t => cell_grown c3 (hFb t)
    have f4 : ∀ t, (F t).cell? ⟨gz, i * 5 + 4, none⟩ = some (.string st) := fun t => cell_grown c4 (hFb t)
    have e0 : ∀ t, (F t).cell? ⟨gy, k * 4, none⟩ = some (.string xn) := fun t => cell_grown n0 (hFb t)
    have e1 : ∀ t, (F t).cell? ⟨gy, k * 4 + 1, none⟩ = some (.int .i64 xk) := fun t => cell_grown n1 (hFb t)
    have e2 : ∀ t, (F t).cell? ⟨gy, k * 4 + 2, none⟩ = some (.int .i64 xm) := fun t => cell_grown n2 (hFb t)
    have e3 : ∀ t, (F t).cell? ⟨gy, k * 4 + 3, none⟩ = some (.int .i64 xx) := fun t => cell_grown n3 (hFb t)
    have HFa : Hid ((∃ i, { wr with drawn := wr.drawn + 1 } = F i) ∧ (∀ i, Below wr.heap.size wr (F i)) ∧ (∀ i W, Below wr.heap.size (F i) W → ∃ j, W = F j)) := ⟨hF0, hFb, hFc⟩
    have ix : (0 : Int) ≤ (k : Int) ∧ (k : Int) < (az.length : Int) := by omega
    have iy : (0 : Int) ≤ (i : Int) ∧ (i : Int) < (f.length : Int) := by omega
    clear hF0 hFb hFc c0 c1 c2 c3 c4 n0 n1 n2 n3
    go_wp2_with fail
    refine wp_region_fam F HFa.out.1 (by kernel_rfl) (by kernel_rfl) ?_
    repeat (go_big_quiet_step (first
      | (go_at_call 43; refine Calls.mono (HL.out.find _ (HFa.out.2.1 _)) ?_; rintro e' w' ⟨hs, hb'⟩; exact ⟨hs, HFa.out.2.2 _ _ (hb'.mono (HFa.out.2.1 _).size)⟩)
      | (go_at_call 42; refine Calls.mono (HL.out.range _) ?_; rintro e' w' ⟨hs, hb'⟩; exact ⟨hs, HFa.out.2.2 _ _ (hb'.mono (HFa.out.2.1 _).size)⟩)))
    refine wpQuiet_nil ?_
    rintro _ ⟨fi, rfl⟩
    have HBY : Hid (Below w.heap.size w (F fi)) := HB.out.trans ((HFa.out.2.1 fi).mono HB.out.size)
    generalize F fi = W5 at HBY ⊢
    clear HFa f0 f1 f2 f3 f4 e0 e1 e2 e3 ix iy HL
    obtain ⟨gx, hgx, hgl, _, c0, c1, c2, c3, c4⟩ := (HP.out.below HBY.out).row b hb
    have hgq2 : gx = gz := by simpa using hgx.symm
    subst hgq2
    obtain ⟨k2, hkl2, hLK⟩ := HLK.out b hb
    obtain ⟨gw, hgw, hgwl, _, n0, n1, n2, n3⟩ := (HA.out.below HBY.out).row k2 hkl2
    have hgr2 : gw = gy := by simpa using hgw.symm
    subst hgr2
    have HL : Hid _ := hLK W5 HBY.out
    have HS2 : Hid (szI az (f.getD b pd0) n = (rg az (f.getD b pd0) n).2 - (rg az (f.getD b pd0) n).1 + 1) := HL.out.size
    have hbdb := HL.out.bd
    clear hLK
    generalize (rg az (f.getD b pd0) n).1 = r1 at HL HS2 hbdb
    generalize (rg az (f.getD b pd0) n).2 = r2 at HL HS2 hbdb
    generalize az.getD k2 at0 = x at n0 n1 n2 n3 HL
    obtain ⟨p, hp⟩ : ∃ p, p = f.getD b pd0 := ⟨_, rfl⟩
    rw [← hp] at c0 c1 c2 c3 c4 HL
    clear hp
    obtain ⟨xn, xk, xm, xx⟩ := x
    obtain ⟨pn, op, lo, hi', st⟩ := p
    simp only at c0 c1 c2 c3 c4 n0 n1 n2 n3
    obtain ⟨ι, F, _, hF0, hFb, hFc⟩ := grown_fam W5
    have f0 : ∀ t, (F t).cell? ⟨gx, b * 5, none⟩ = some (.string pn) := fun t => cell_grown c0 (hFb t)
    have f1 : ∀ t, (F t).cell? ⟨gx, b * 5 + 1, none⟩ = some (.int .i64 op) := fun t => cell_grown c1 (hFb t)
    have f2 : ∀ t, (F t).cell? ⟨gx, b * 5 + 2, none⟩ = some (.int .i64 lo) := fun t => cell_grown c2 (hFb t)
    have f3 : ∀ t, (F t).cell? ⟨gx, b * 5 + 3, none⟩ = some (.int .i64 hi') := fun t => cell_grown c3 (hFb t)
    have f4 : ∀ t, (F t).cell? ⟨gx, b * 5 + 4, none⟩ = some (.string st) := fun t => cell_grown c4 (hFb t)
    have e0 : ∀ t, (F t).cell? ⟨gw, k2 * 4, none⟩ = some (.string xn) := fun t => cell_grown n0 (hFb t)
    have e1 : ∀ t, (F t).cell? ⟨gw, k2 * 4 + 1, none⟩ = some (.int .i64 xk) := fun t => cell_grown n1 (hFb t)
    have e2 : ∀ t, (F t).cell? ⟨gw, k2 * 4 + 2, none⟩ = some (.int .i64 xm) := fun t => cell_grown n2 (hFb t)
    have e3 : ∀ t, (F t).cell? ⟨gw, k2 * 4 + 3, none⟩ = some (.int .i64 xx) := fun t => cell_grown n3 (hFb t)
    have HFa : Hid ((∃ i, { W5 with drawn := W5.drawn + 1 } = F i) ∧ (∀ i, Below W5.heap.size W5 (F i)) ∧ (∀ i W, Below W5.heap.size (F i) W → ∃ j, W = F j)) := ⟨hF0, hFb, hFc⟩
    have ix : (0 : Int) ≤ (k2 : Int) ∧ (k2 : Int) < (az.length : Int) := by omega
    have iy : (0 : Int) ≤ (b : Int) ∧ (b : Int) < (f.length : Int) := by omega
    clear hF0 hFb hFc c0 c1 c2 c3 c4 n0 n1 n2 n3
    go_wp2_with fail
    refine wp_region_fam F HFa.out.1 (by kernel_rfl) (by kernel_rfl) ?_
    repeat (go_big_quiet_step (first
      | (go_at_call 43; refine Calls.mono (HL.out.find _ (HFa.out.2.1 _)) ?_; rintro e' w' ⟨hs, hb'⟩; exact ⟨hs, HFa.out.2.2 _ _ (hb'.mono (HFa.out.2.1 _).size)⟩)
      | (go_at_call 42; refine Calls.mono (HL.out.range _) ?_; rintro e' w' ⟨hs, hb'⟩; exact ⟨hs, HFa.out.2.2 _ _ (hb'.mono (HFa.out.2.1 _).size)⟩)))
    refine wpQuiet_nil ?_
    rintro _ ⟨fi, rfl⟩
    have HBZ : Hid (Below w.heap.size w (F fi)) := HBY.out.trans ((HFa.out.2.1 fi).mono HBY.out.size)
    generalize F fi = W6 at HBZ ⊢
    clear HFa f0 f1 f2 f3 f4 e0 e1 e2 e3 ix iy HL
    have HSS : Hid (szI az (f.getD i pd0) n = d2 - d1 + 1 ∧ szI az (f.getD b pd0) n = r2 - r1 + 1) := ⟨HS1.out, HS2.out⟩
    by_cases hzy : d2 - d1 < r2 - r1
    · have J : Hid _ := HIm.out (by have := HSS.out; omega)
      go_wp2
      go_roundg (f.length - (i + 1))
      case measure => omega
      case rel => exact ⟨i + 1, i, by go_num, rfl, by omega, hlt, rfl, J, HBZ⟩
    · have J : Hid _ := HIk.out (by have := HSS.out; omega)
      go_wp2
      go_roundg (f.length - (i + 1))
      case measure => omega
      case rel => exact ⟨i + 1, b, by go_num, rfl, by omega, hb, rfl, J, HBZ⟩
end Go.Proofs.YtkkbhkpeglcodaaGreatDoor
