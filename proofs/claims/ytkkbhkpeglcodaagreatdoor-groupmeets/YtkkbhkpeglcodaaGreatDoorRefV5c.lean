/- The document's values (wigwagref05): Name, Event. -/
import Derived.Test.YtkkbhkpeglcodaaGreatDoorRefV5b
namespace Go.Proofs.YtkkbhkpeglcodaaGreatDoor
open Go.ChangeShapes Go.WideShapes Go.ChangeAt Go.RowKit
set_option linter.unusedVariables false

set_option maxHeartbeats 2000000 in
theorem rname5_any (s : ByteArray) (w : World) (hs : s.size ≤ maxLen) :
    Calls Tryz.prog 29 #[.string s] w fun e w' => Says e (NameOk s) ∧ w' = w := by
  unfold maxLen at hs
  by_cases g1 : s.size = 0
  · go_enter Tryz.func29, Tryz.ntmps29
    go_wp2
    go_ret
    exact ⟨Says.no fun h => by have := h.lo; omega, rfl⟩
  by_cases g2 : 12 < s.size
  · go_enter Tryz.func29, Tryz.ntmps29
    go_wp2
    go_ret
    exact ⟨Says.no fun h => by have := h.hi; omega, rfl⟩
  by_cases g3 : s.toList = [105, 110]
  · go_enter Tryz.func29, Tryz.ntmps29
    go_wp2
    go_ret
    exact ⟨Says.no fun h => h.nin g3, rfl⟩
  by_cases g4 : s.toList = [97, 110, 100]
  · go_enter Tryz.func29, Tryz.ntmps29
    go_wp2
    go_ret
    exact ⟨Says.no fun h => h.nand g4, rfl⟩
  have b1 : ((s.size : Int) == 0) = false := beq_eq_false_iff_ne.2 (by omega)
  have b3 : (s.toList == [105, 110]) = false := by simpa using g3
  have b4 : (s.toList == [97, 110, 100]) = false := by simpa using g4
  have G3 : Hid (s.toList ≠ [105, 110]) := g3
  have G4 : Hid (s.toList ≠ [97, 110, 100]) := g4
  go_enter Tryz.func29, Tryz.ntmps29
  go_wp2
  go_loop [3] (fun i => ∃ k : Nat, k ≤ s.size ∧ i = .int .i64 k ∧ Hid (∀ j (h : j < s.size), j < k → letterP s[j] ∨ (j ≠ 0 ∧ digitP s[j]))) (fun i => s.size - (intOf i).toNat)
  case atStart => exact ⟨0, Nat.zero_le _, rfl, (fun j _ h => absurd h (Nat.not_lt_zero _) : ∀ j (h : j < s.size), j < 0 → letterP s[j] ∨ (j ≠ 0 ∧ digitP s[j]))⟩
  case round =>
    obtain ⟨k, hk, rfl, I⟩ := hrel
    by_cases hlt : k < s.size
    · have I2 : letterP s[k] ∨ (k ≠ 0 ∧ digitP s[k]) → Hid (∀ j (h : j < s.size), j < k + 1 → letterP s[j] ∨ (j ≠ 0 ∧ digitP s[j])) := fun hh j hj hjk => by
        by_cases e : j = k
        · subst e; exact hh
        · exact I.out j hj (by omega)
      have HI2 : Hid _ := I2
      clear I2
      have hch : ∀ _ : NameOk s, letterP s[k] ∨ (k ≠ 0 ∧ digitP s[k]) := fun h => h.ch k hlt
      have HC : Hid _ := hch
      clear hch
      by_cases hL : (97 : Int) ≤ (s[k].toNat : Int) ∧ (s[k].toNat : Int) ≤ 122
      · obtain ⟨h1, h2⟩ := hL
        have h3 : (48 : Int) ≤ (s[k].toNat : Int) := by omega
        have h4 : ¬ (s[k].toNat : Int) ≤ 57 := by omega
        go_wp2
        go_round
        case rel => exact ⟨k + 1, by omega, by go_num, HI2.out (by unfold letterP digitP; omega)⟩
        case measure => simp [intOf]; omega
      · by_cases hD : (48 : Int) ≤ (s[k].toNat : Int) ∧ (s[k].toNat : Int) ≤ 57
        · obtain ⟨h3, h4⟩ := hD
          have h1 : ¬ (97 : Int) ≤ (s[k].toNat : Int) := by omega
          clear hL
          rcases Nat.eq_zero_or_pos k with hk0 | hk0
          · subst hk0
            have HN : Hid (¬ NameOk s) := fun h => by have := HC.out h; unfold letterP digitP at this; omega
            clear HC HI2 I
            go_wp2
            go_ret
            exact ⟨Says.no HN.out, rfl⟩
          · go_wp2
            go_round
            case rel => exact ⟨k + 1, by omega, by go_num, HI2.out (by unfold letterP digitP; omega)⟩
            case measure => simp [intOf]; omega
        · have HN : Hid (¬ NameOk s) := fun h => by have := HC.out h; unfold letterP digitP at this; omega
          clear HC HI2 I
          rcases Nat.lt_or_ge s[k].toNat 97 with h1 | h1
          · have h1' : ¬ (97 : Int) ≤ (s[k].toNat : Int) := by omega
            rcases Nat.lt_or_ge s[k].toNat 48 with h3 | h3
            · have h3' : ¬ (48 : Int) ≤ (s[k].toNat : Int) := by omega
              clear hL hD h1 h3
              go_wp2
              all_goals (go_ret; exact ⟨Says.no HN.out, rfl⟩)
            · have h3' : (48 : Int) ≤ (s[k].toNat : Int) := by omega
              have h4' : ¬ (s[k].toNat : Int) ≤ 57 := by omega
              clear hL hD h1 h3
              go_wp2
              all_goals (go_ret; exact ⟨Says.no HN.out, rfl⟩)
          · have h1' : (97 : Int) ≤ (s[k].toNat : Int) := by omega
            have h2' : ¬ (s[k].toNat : Int) ≤ 122 := by omega
            have h3' : (48 : Int) ≤ (s[k].toNat : Int) := by omega
            have h4' : ¬ (s[k].toNat : Int) ≤ 57 := by omega
            clear hL hD h1
            go_wp2
            all_goals (go_ret; exact ⟨Says.no HN.out, rfl⟩)
    · go_wp2
      go_ret
      exact ⟨Says.yes ⟨by omega, by omega, G3.out, G4.out, fun i hi => I.out i hi (by omega)⟩, rfl⟩

set_option maxRecDepth 100000 in
set_option maxHeartbeats 4000000 in
theorem revent5_any (v u : Value) (az : List At) (vs : List Vl) (pay : Nat) (w : World) (h : AtIn w v az) (hv : VlIn w u vs) (hl : az.length ≤ 1000) (hl2 : vs.length ≤ 1000) (hp : pay ≤ 1000000) (hk : ∀ i, i < az.length → (az.getD i at0).kind = 1 ∨ (az.getD i at0).kind = 2) (hz : ∀ i, i < vs.length → (vs.getD i vl0).str.size ≤ maxLen) :
    Calls Tryz.prog 51 #[v, u, .int .i64 (pay : Int)] w fun e w' => RF5 e (EventOk az vs pay) ∧ Below w.heap.size w w' := by
  obtain ⟨a, c, hav, _⟩ := h.shape
  obtain ⟨b, d, hbv, _⟩ := hv.shape
  subst hav hbv
  have HI : Hid (AtIn w (.slice a az.length c) az ∧ VlIn w (.slice b vs.length d) vs) := ⟨h, hv⟩
  have HZ : Hid _ := hz
  have HK : Hid _ := hk
  clear h hv hz hk
  by_cases hn : vs.length = az.length
  case neg =>
    have HN : Hid (¬ EventOk az vs pay) := fun hh => hn hh.1
    have b1 : ((vs.length : Int) == (az.length : Int)) = false := by simp; omega
    go_enter Tryz.func51, Tryz.ntmps51
    go_wp2
    go_ret
    exact ⟨⟨0, rfl, Or.inr ⟨by omega, HN.out⟩⟩, Below.refl _ _⟩
  by_cases hpy : 200 < pay
  · have HN : Hid (¬ EventOk az vs pay) := fun hh => by have := hh.2.1; omega
    rw [hn]
    clear hn
    go_enter Tryz.func51, Tryz.ntmps51
    go_wp2
    go_ret
    exact ⟨⟨0, rfl, Or.inr ⟨by omega, HN.out⟩⟩, Below.refl _ _⟩
  have HV : Hid (vs.length = az.length ∧ pay ≤ 200) := ⟨hn, by omega⟩
  rw [hn]
  rw [hn] at HI
  clear hn
  go_enter Tryz.func51, Tryz.ntmps51
  go_wp2_with fail
  go_loopg [21] az.length (fun kx s21 wr => ∃ i : Nat, s21 = .int .i64 (i : Int) ∧ i ≤ az.length ∧ kx = az.length - i ∧ Hid (Below w.heap.size w wr ∧ ∀ j, j < i → ValOk (az.getD j at0) (vs.getD j vl0)))
  case atStart => exact ⟨0, rfl, Nat.zero_le _, rfl, (⟨Below.refl _ _, fun j hj => absurd hj (Nat.not_lt_zero _)⟩ : _ ∧ _)⟩
  case round =>
    obtain ⟨i, rfl, hi, rfl, I⟩ := hrel
    by_cases hlt : i < az.length
    case neg =>
      obtain rfl : i = az.length := by omega
      have HY : Hid (EventOk az vs pay) := ⟨HV.out.1, HV.out.2, I.out.2⟩
      go_wp2
      go_ret
      exact ⟨⟨-1, rfl, Or.inl ⟨rfl, HY.out⟩⟩, I.out.1⟩
    obtain ⟨g, ha, hg, hac, k0, k1, k2, k3⟩ := (HI.out.1.below I.out.1).row i hlt
    obtain ⟨g', hb, hg', hbc, m0, m1⟩ := (HI.out.2.below I.out.1).row i (by have := HV.out.1; omega)
    subst ha hb
    have HKI : Hid _ := HK.out i hlt
    have hsz := HZ.out i (by have := HV.out.1; omega)
    have HNO : Hid (¬ ValOk (az.getD i at0) (vs.getD i vl0) → ¬ EventOk az vs pay) := fun hh he => hh (he.2.2 i hlt)
    have HGO : Hid (ValOk (az.getD i at0) (vs.getD i vl0) → ∀ j, j < i + 1 → ValOk (az.getD j at0) (vs.getD j vl0)) := fun hh j hj => by
      by_cases e : j = i
      · subst e; exact hh
      · exact I.out.2 j (by omega)
    have HB : Hid (∀ o1 o2, Below w.heap.size w ((wr.alloc o1).alloc o2)) := fun o1 o2 => (I.out.1.alloc I.out.1.size _).alloc (by simp; exact Nat.le_succ_of_le I.out.1.size) _
    generalize az.getD i at0 = x at k0 k1 k2 k3 HKI HNO HGO
    generalize vs.getD i vl0 = y at m0 m1 hsz HNO HGO
    obtain ⟨xn, xk, xm, xx⟩ := x
    obtain ⟨yn, ys⟩ := y
    simp only at k0 k1 k2 k3 m0 m1 hsz HKI
    have hx2 := HKI.out
    have h00 : ByteArray.empty.toList = [] := by rw [ByteArray.toList_eq]; rfl
    have he : (ys = ByteArray.empty) ↔ ys.toList = [] := by
      constructor
      · intro h; rw [h]; exact h00
      · intro h; exact toList_inj.1 (h.trans h00.symm)
    clear h00 I HKI
    rcases hx2 with rfl | rfl
    · have HP : Hid (ValOk ⟨xn, 1, xm, xx⟩ ⟨yn, ys⟩ ↔ (xm ≤ yn ∧ yn ≤ xx ∧ ys.toList = [])) := by
        rw [Hid]; unfold ValOk; simp only; rw [he]
        constructor
        · rintro (⟨_, q⟩ | ⟨q, _⟩)
          · exact q
          · omega
        · intro q; exact Or.inl ⟨trivial, q⟩
      clear he
      by_cases g1 : ys.toList = []
      case neg =>
        have b1 : (ys.toList == []) = false := by simpa using g1
        have HN : Hid (¬ EventOk az vs pay) := HNO.out fun q => g1 (HP.out.1 q).2.2
        clear HNO HGO HP
        go_wp2
        go_ret
        exact ⟨⟨i, rfl, Or.inr ⟨by omega, HN.out⟩⟩, HB.out _ _⟩
      have b1 : (ys.toList == []) = true := by simpa using g1
      by_cases g2 : xm ≤ yn
      case neg =>
        have HN : Hid (¬ EventOk az vs pay) := HNO.out fun q => g2 (HP.out.1 q).1
        have g2' : yn < xm := by omega
        clear HNO HGO HP g1
        go_wp2
        go_ret
        exact ⟨⟨i, rfl, Or.inr ⟨by omega, HN.out⟩⟩, HB.out _ _⟩
      by_cases g3 : yn ≤ xx
      case neg =>
        have HN : Hid (¬ EventOk az vs pay) := HNO.out fun q => g3 (HP.out.1 q).2.1
        have g3' : xx < yn := by omega
        clear HNO HGO HP g1
        go_wp2
        go_ret
        exact ⟨⟨i, rfl, Or.inr ⟨by omega, HN.out⟩⟩, HB.out _ _⟩
      have HY : Hid _ := HGO.out (HP.out.2 ⟨g2, g3, g1⟩)
      clear HNO HGO HP g1
      go_wp2
      go_roundg (az.length - (i + 1))
      case measure => omega
      case rel => exact ⟨i + 1, by go_num, by omega, rfl, (⟨HB.out _ _, HY.out⟩ : _ ∧ _)⟩
    · have HP : Hid (ValOk ⟨xn, 2, xm, xx⟩ ⟨yn, ys⟩ ↔ (StrOk ys ∧ yn = 0)) := by
        rw [Hid]; unfold ValOk; simp only
        constructor
        · rintro (⟨q, _⟩ | ⟨_, q⟩)
          · omega
          · exact q
        · intro q; exact Or.inr ⟨trivial, q⟩
      clear he
      by_cases g1 : yn = 0
      case neg =>
        have b1 : (yn == 0) = false := by simpa using g1
        have HN : Hid (¬ EventOk az vs pay) := HNO.out fun q => g1 (HP.out.1 q).2
        clear HNO HGO HP
        go_wp2
        go_ret
        exact ⟨⟨i, rfl, Or.inr ⟨by omega, HN.out⟩⟩, HB.out _ _⟩
      have HST : Hid _ := fun W => rstr5_any ys W hsz
      subst g1
      by_cases g2 : StrOk ys
      · have HY : Hid _ := HGO.out (HP.out.2 ⟨g2, rfl⟩)
        have HS : Hid (StrOk ys) := g2
        clear HNO HGO HP g2
        go_wp2_with fail
        refine Calls.mono (HST.out _) ?_
        rintro e w' ⟨hS, hw'⟩
        subst w'
        have := hS.t HS.out
        subst this
        clear hS
        go_wp2
        go_roundg (az.length - (i + 1))
        case measure => omega
        case rel => exact ⟨i + 1, by go_num, by omega, rfl, (⟨HB.out _ _, HY.out⟩ : _ ∧ _)⟩
      · have HN : Hid (¬ EventOk az vs pay) := HNO.out fun q => g2 (HP.out.1 q).1
        have HS : Hid (¬ StrOk ys) := g2
        clear HNO HGO HP g2
        go_wp2_with fail
        refine Calls.mono (HST.out _) ?_
        rintro e w' ⟨hS, hw'⟩
        subst w'
        have := hS.f HS.out
        subst this
        clear hS
        go_wp2
        go_ret
        exact ⟨⟨i, rfl, Or.inr ⟨by omega, HN.out⟩⟩, HB.out _ _⟩
end Go.Proofs.YtkkbhkpeglcodaaGreatDoor
