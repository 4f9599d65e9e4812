/- The document's values (wigwagref05): Filter. -/
import Derived.Test.YtkkbhkpeglcodaaGreatDoorRefV5
import Derived.Deep.CutBlock
import Derived.Deep.DeepCutAuto
namespace Go.Proofs.YtkkbhkpeglcodaaGreatDoor
open Go.ChangeShapes Go.WideShapes Go.ChangeAt Go.RowKit
set_option linter.unusedVariables false

theorem fok_iff {az : List At} {ps : List Pd} : FilterOk az ps ↔ 1 ≤ ps.length ∧ ps.length ≤ 4 ∧ ∀ i, i < ps.length → PGood az ps i := Iff.rfl
def RF5 (e : Ending) (P : Prop) : Prop := ∃ r : Int, e = .returned (.int .i64 r) ∧ ((r = -1 ∧ P) ∨ (0 ≤ r ∧ ¬ P))
theorem found_nn {az : List At} {nm : ByteArray} {r : Int} (h : Found az nm r) : (0 ≤ r ∧ ∃ k : Nat, r = k ∧ FindAt az nm k) ∨ (r = -1 ∧ FindNo az nm) := by
  rcases h with ⟨k, hk, hf⟩ | h
  · exact Or.inl ⟨by omega, k, hk, hf⟩
  · exact Or.inr h
theorem find_one {az : List At} {nm : ByteArray} {k k' : Nat} (h : FindAt az nm k) (h' : FindAt az nm k') : k = k' := by
  rcases Nat.lt_trichotomy k k' with q | q | q
  · exact absurd h.2.1 (h'.2.2 k q)
  · exact q
  · exact absurd h'.2.1 (h.2.2 k' q)

set_option maxRecDepth 100000 in
set_option maxHeartbeats 8000000 in
theorem rfilter5_any (v u : Value) (az : List At) (ps : List Pd) (w : World) (h : AtIn w v az) (hv : PdIn w u ps) (hl : az.length ≤ 1000) (hl2 : ps.length ≤ 1000) (hz : ∀ i, i < ps.length → (ps.getD i pd0).str.size ≤ maxLen) :
    Calls Tryz.prog 41 #[v, u] w fun e w' => RF5 e (FilterOk az ps) ∧ Below w.heap.size w w' := by
  obtain ⟨a, c, hav, _⟩ := h.shape
  obtain ⟨b, d, hbv, _⟩ := hv.shape
  subst hav hbv
  have HI : Hid (AtIn w (.slice a az.length c) az ∧ PdIn w (.slice b ps.length d) ps) := ⟨h, hv⟩
  have HZ : Hid _ := hz
  clear h hv hz
  by_cases hlen : 1 ≤ ps.length ∧ ps.length ≤ 4
  case neg =>
    have HN : Hid (¬ FilterOk az ps) := fun hh => hlen ⟨hh.1, hh.2.1⟩
    rcases (show ps.length < 1 ∨ (¬ ps.length < 1 ∧ 4 < ps.length) by omega) with h1 | ⟨h1, h2⟩
    all_goals
      clear hlen
      go_enter Tryz.func41, Tryz.ntmps41
      go_wp2
      go_ret
      exact ⟨⟨0, rfl, Or.inr ⟨by omega, HN.out⟩⟩, Below.refl _ _⟩
  obtain ⟨hl1, hl4⟩ := hlen
  have g1 : ¬ (ps.length : Int) < 1 := by omega
  have g2 : ¬ (4 : Int) < (ps.length : Int) := by omega
  go_enter Tryz.func41, Tryz.ntmps41
  go_wp2_with fail
  go_loopg [21] ps.length (fun kx s21 wr => ∃ i : Nat, s21 = .int .i64 (i : Int) ∧ i ≤ ps.length ∧ kx = ps.length - i ∧ Hid (Below w.heap.size w wr ∧ ∀ j, j < i → PGood az ps j))
  case atStart => exact ⟨0, rfl, Nat.zero_le _, rfl, (⟨Below.refl _ _, fun j hj => absurd hj (Nat.not_lt_zero _)⟩ : _ ∧ _)⟩
  case round =>
    obtain ⟨i, rfl, hi, rfl, I⟩ := hrel
    by_cases hlt : i < ps.length
    case neg =>
      obtain rfl : i = ps.length := by omega
      have HY : Hid (FilterOk az ps) := ⟨hl1, hl4, I.out.2⟩
      go_wp2
      go_ret
      exact ⟨⟨-1, rfl, Or.inl ⟨rfl, HY.out⟩⟩, I.out.1⟩
    obtain ⟨g, hb, hg, hcd, k0, k1, k2, k3, k4⟩ := (HI.out.2.below I.out.1).row i hlt
    subst hb
    obtain ⟨p, hp⟩ : ∃ p, p = ps.getD i pd0 := ⟨_, rfl⟩
    have HPI : Hid (p = ps.getD i pd0) := hp
    rw [← hp] at k0 k1 k2 k3 k4
    clear hp
    obtain ⟨pn, op, lo, hi', st⟩ := p
    simp only at k0 k1 k2 k3 k4
    have HFD : Hid _ := fun W (hA : AtIn W (.slice a az.length c) az) => rfind5_any (.slice a az.length c) az pn W hA hl
    go_wp2_with fail
    refine Calls.mono (HFD.out _ ((HI.out.1.below I.out.1).below (vbel1 _ _))) ?_
    rintro e W1 ⟨⟨r, rfl, hF⟩, b1⟩
    have hB1 : Below w.heap.size w W1 := I.out.1.trans (((vbel1 _ _).trans (b1.mono (by simp))).mono I.out.1.size)
    have zX : W1.heap[wr.heap.size]? = some (.cells #[.string pn, .int .i64 op, .int .i64 lo, .int .i64 hi', .string st] 90 (0, 0)) := (b1.block _ (by simp)).trans (heap_alloc_new wr _)
    have HX : Hid (W1.heap[wr.heap.size]? = some (.cells #[.string pn, .int .i64 op, .int .i64 lo, .int .i64 hi', .string st] 90 (0, 0)) ∧ Below w.heap.size w W1) := ⟨zX, hB1⟩
    have HFO : Hid (Found az pn r) := hF
    have HGD : Hid (∀ j, j < i → PGood az ps j) := I.out.2
    have hr1 : r = -1 ∨ 0 ≤ r := by
      rcases found_nn hF with q | q
      · exact Or.inr q.1
      · exact Or.inl q.1
    have hdc : ∃ ok0 : Bool, ok0 = decide (0 ≤ r) := ⟨_, rfl⟩
    obtain ⟨ok0, hok0⟩ := hdc
    have HOK0 : Hid (ok0 = decide (0 ≤ r)) := hok0
    clear zX hB1 b1 hF k0 k1 k2 k3 k4 I
    generalize wr.heap.size = X at *
    have hid : i ≤ d := by omega
    go_wp2_with fail
    rw [← hok0]
    clear hok0
    go_loopg [8, 36] i (fun kx s8 s36 wq => ∃ (j : Nat) (ok : Bool), s36 = .int .i64 (j : Int) ∧ s8 = .bool ok ∧ j ≤ i ∧ kx = i - j ∧ Hid (Below W1.heap.size W1 wq ∧ (ok = true ↔ (0 ≤ r ∧ ∀ j', j' < j → (ps.getD j' pd0).name ≠ pn))))
    case atStart => exact ⟨0, ok0, rfl, rfl, Nat.zero_le _, rfl, (⟨Below.refl _ _, by rw [HOK0.out]; simp⟩ : _ ∧ _)⟩
    case round =>
      obtain ⟨j, ok, rfl, rfl, hj, rfl, J⟩ := hrel
      have zq := (J.out.1.block X (lt_of_block HX.out.1)).trans HX.out.1
      have HXq : Hid (wr.heap[X]? = some (.cells #[.string pn, .int .i64 op, .int .i64 lo, .int .i64 hi', .string st] 90 (0, 0)) ∧ Below w.heap.size w wr) := ⟨zq, HX.out.2.trans (J.out.1.mono HX.out.2.size)⟩
      have x0 : wr.cell? ⟨X, 0, none⟩ = some (.string pn) := by simp [World.cell?, zq]
      have x1 : wr.cell? ⟨X, 1, none⟩ = some (.int .i64 op) := by simp [World.cell?, zq]
      have x2 : wr.cell? ⟨X, 2, none⟩ = some (.int .i64 lo) := by simp [World.cell?, zq]
      have x3 : wr.cell? ⟨X, 3, none⟩ = some (.int .i64 hi') := by simp [World.cell?, zq]
      have x4 : wr.cell? ⟨X, 4, none⟩ = some (.string st) := by simp [World.cell?, zq]
      have xl := lt_of_block zq
      clear zq
      by_cases hjl : j < i
      · obtain ⟨g', hb', hg', _, m0, m1, m2, m3, m4⟩ := (HI.out.2.below HXq.out.2).row j (by omega)
        have hgg : g' = g := by simpa using hb'.symm
        subst hgg
        have HB : Hid (∀ o, Below W1.heap.size W1 (wr.alloc o)) := fun o => J.out.1.trans ((vbel1 _ _).mono J.out.1.size)
        have HJ : Hid (∀ ok' : Bool, (ok' = true ↔ (ok = true ∧ (ps.getD j pd0).name ≠ pn)) → (ok' = true ↔ (0 ≤ r ∧ ∀ j', j' < j + 1 → (ps.getD j' pd0).name ≠ pn))) := fun ok' hh => by
          rw [hh, J.out.2]
          constructor
          · rintro ⟨⟨q1, q2⟩, q3⟩
            refine ⟨q1, fun j' hj' => ?_⟩
            by_cases e : j' = j
            · subst e; exact q3
            · exact q2 j' (by omega)
          · rintro ⟨q1, q2⟩
            exact ⟨⟨q1, fun j' hj' => q2 j' (by omega)⟩, q2 j (by omega)⟩
        generalize ps.getD j pd0 = y at m0 m1 m2 m3 m4 HJ
        obtain ⟨yn, yo, yl, yh, ys⟩ := y
        simp only at m0 m1 m2 m3 m4 HJ
        cases ok with
        | false =>
          have HN := HJ.out false (by simp)
          have HN2 : Hid _ := HN
          clear HN HJ
          go_wp2
          go_roundg (i - (j + 1))
          case measure => omega
          case rel => exact ⟨j + 1, false, by go_num, rfl, by omega, rfl, (⟨HB.out _, HN2.out⟩ : _ ∧ _)⟩
        | true =>
          by_cases hnm : yn = pn
          · have HN2 : Hid _ := HJ.out false (by simp [hnm])
            subst hnm
            clear HJ
            go_wp2
            go_roundg (i - (j + 1))
            case measure => omega
            case rel => exact ⟨j + 1, false, by go_num, rfl, by omega, rfl, (⟨HB.out _, HN2.out⟩ : _ ∧ _)⟩
          · have HN2 : Hid _ := HJ.out true (by simp [hnm])
            have h1 : pn.toList ≠ yn.toList := fun e => hnm (toList_inj.1 e).symm
            have h2 : (pn.toList == yn.toList) = false := by simpa using h1
            clear HJ hnm
            go_wp2
            go_roundg (i - (j + 1))
            case measure => omega
            case rel => exact ⟨j + 1, true, by go_num, rfl, by omega, rfl, (⟨HB.out _, by have := HN2.out; simpa using this⟩ : _ ∧ _)⟩
      · obtain rfl : j = i := by omega
        have HPG : Hid (PGood az ps j ↔ (ok = true ∧ ∃ k : Nat, r = k ∧ k < az.length ∧ PredOk (az.getD k at0) ⟨pn, op, lo, hi', st⟩)) := by
          rw [Hid]
          unfold PGood
          rw [← HPI.out]
          simp only
          constructor
          · rintro ⟨q1, k, hk, hok⟩
            rcases found_nn HFO.out with ⟨r0, k', hk', hf'⟩ | ⟨_, hno⟩
            · obtain rfl := find_one hk hf'
              exact ⟨J.out.2.2 ⟨r0, q1⟩, k, hk', hk.1, hok⟩
            · exact absurd hk.2.1 (hno k hk.1)
          · rintro ⟨q0, k, hk, hkl, hok⟩
            obtain ⟨r0, q1⟩ := J.out.2.1 q0
            rcases found_nn HFO.out with ⟨_, k', hk', hf'⟩ | ⟨hr, _⟩
            · have : k = k' := by omega
              subst this
              exact ⟨q1, k, hf', hok⟩
            · omega
        have HNX : Hid (PGood az ps j → ∀ j', j' < j + 1 → PGood az ps j') := fun hp j' hj' => by
          by_cases e : j' = j
          · subst e; exact hp
          · exact HGD.out j' (by omega)
        have HNO : Hid (¬ PGood az ps j → ¬ FilterOk az ps) := fun hn hf => hn (hf.2.2 j hlt)
        cases ok with
        | false =>
          have HN : Hid (¬ FilterOk az ps) := HNO.out (fun hp => by have := (HPG.out.1 hp).1; cases this)
          clear HPG HNX HNO
          go_wp2_with fail
          go_quiet (fail)
          go_wp2
          go_ret
          exact ⟨⟨_, rfl, Or.inr ⟨by omega, HN.out⟩⟩, HXq.out.2.trans ⟨rfl, rfl, rfl, Nat.le_refl _, fun _ _ => rfl⟩⟩
        | true =>
          obtain ⟨k, rfl, hkf⟩ : ∃ k : Nat, r = k ∧ FindAt az pn k := by
            rcases found_nn HFO.out with ⟨_, k, hk, hf⟩ | ⟨hr, _⟩
            · exact ⟨k, hk, hf⟩
            · have := (J.out.2.1 rfl).1; omega
          have hkl := hkf.1
          obtain ⟨ga, hga, hgal, hcc, n0, n1, n2, n3⟩ := (HI.out.1.below HXq.out.2).row k hkl
          subst hga
          have HPD : Hid _ := fun W => rpred5_any (az.getD k at0) ⟨pn, op, lo, hi', st⟩ W (by have := HZ.out j hlt; rw [← HPI.out] at this; exact this)
          have HPG2 : Hid (PGood az ps j ↔ PredOk (az.getD k at0) ⟨pn, op, lo, hi', st⟩) := by
            rw [Hid, HPG.out]
            constructor
            · rintro ⟨_, k', hk', _, hok⟩
              have : k = k' := by omega
              subst this; exact hok
            · intro hok; exact ⟨rfl, k, rfl, hkl, hok⟩
          obtain ⟨pb, hpb⟩ : ∃ pb : Bool, (pb = true ↔ PGood az ps j) := ⟨@decide (PGood az ps j) (Classical.propDecidable _), @decide_eq_true_iff _ (Classical.propDecidable _)⟩
          have HPB : Hid (pb = true ↔ PGood az ps j) := hpb
          have HPC : Hid (∀ W, Calls Tryz.prog 67 #[.agg #[.string (az.getD k at0).name, .int .i64 (az.getD k at0).kind, .int .i64 (az.getD k at0).mn, .int .i64 (az.getD k at0).mx], .agg #[.string pn, .int .i64 op, .int .i64 lo, .int .i64 hi', .string st]] W fun e w' => e = .returned (.bool pb) ∧ Below W.heap.size W w') := fun W => by
            refine (HPD.out W).mono ?_
            rintro e w' ⟨⟨cb, rfl, hcb⟩, hbw⟩
            refine ⟨?_, hbw⟩
            have : cb = pb := Bool.eq_iff_iff.2 (hcb.trans (HPG2.out.symm.trans HPB.out.symm))
            rw [this]
          clear hpb HPD HPG HPG2 hkf
          generalize az.getD k at0 = y at n0 n1 n2 n3 HPC
          obtain ⟨yn, yk, ym, yx⟩ := y
          simp only at n0 n1 n2 n3 HPC
          obtain ⟨ι, F, _, hF0, hFb, hFc⟩ := grown_fam wr
          have f0 : ∀ t, (F t).cell? ⟨X, 0, none⟩ = some (.string pn) := fun t => cell_grown x0 (hFb t)
          have f1 : ∀ t, (F t).cell? ⟨X, 1, none⟩ = some (.int .i64 op) := fun t => cell_grown x1 (hFb t)
          have f2 : ∀ t, (F t).cell? ⟨X, 2, none⟩ = some (.int .i64 lo) := fun t => cell_grown x2 (hFb t)
          have f3 : ∀ t, (F t).cell? ⟨X, 3, none⟩ = some (.int .i64 hi') := fun t => cell_grown x3 (hFb t)
          have f4 : ∀ t, (F t).cell? ⟨X, 4, none⟩ = some (.string st) := fun t => cell_grown x4 (hFb t)
          have e0 : ∀ t, (F t).cell? ⟨ga, k * 4, none⟩ = some (.string yn) := fun t => cell_grown n0 (hFb t)
          have e1 : ∀ t, (F t).cell? ⟨ga, k * 4 + 1, none⟩ = some (.int .i64 yk) := fun t => cell_grown n1 (hFb t)
          have e2 : ∀ t, (F t).cell? ⟨ga, k * 4 + 2, none⟩ = some (.int .i64 ym) := fun t => cell_grown n2 (hFb t)
          have e3 : ∀ t, (F t).cell? ⟨ga, k * 4 + 3, none⟩ = some (.int .i64 yx) := fun t => cell_grown n3 (hFb t)
          have HF : Hid ((∃ i, { wr with drawn := wr.drawn + 1 } = F i) ∧ (∀ i, Below wr.heap.size wr (F i)) ∧ (∀ i W, Below wr.heap.size (F i) W → ∃ j, W = F j)) := ⟨hF0, hFb, hFc⟩
          clear hF0 hFb hFc x0 x1 x2 x3 x4 n0 n1 n2 n3
          go_wp2_with fail
          refine wp_region_fam F HF.out.1 (by kernel_rfl) (by kernel_rfl) ?_
          repeat (go_big_quiet_step ((go_at_call 67; refine Calls.mono (HPC.out _) ?_; rintro e' w' ⟨hs, hb⟩; exact ⟨hs, HF.out.2.2 _ _ (hb.mono (HF.out.2.1 _).size)⟩)))
          refine wpQuiet_nil ?_
          rintro _ ⟨fi, rfl⟩
          have BF : Hid (Below w.heap.size w (F fi)) := HXq.out.2.trans ((HF.out.2.1 fi).mono HXq.out.2.size)
          generalize F fi = W5 at BF ⊢
          clear HF f0 f1 f2 f3 f4 e0 e1 e2 e3
          cases pb with
          | true =>
            have HN2 : Hid (∀ j', j' < j + 1 → PGood az ps j') := HNX.out (HPB.out.1 rfl)
            go_wp2
            go_roundg (ps.length - (j + 1))
            case measure => omega
            case rel => exact ⟨j + 1, by go_num, by omega, rfl, (⟨BF.out, HN2.out⟩ : _ ∧ _)⟩
          | false =>
            have HN : Hid (¬ FilterOk az ps) := HNO.out (fun hp => by have := HPB.out.2 hp; cases this)
            go_wp2
            go_ret
            exact ⟨⟨_, rfl, Or.inr ⟨by omega, HN.out⟩⟩, BF.out⟩
end Go.Proofs.YtkkbhkpeglcodaaGreatDoor
