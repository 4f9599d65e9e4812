/- The document's values (wigwagref05): Schema. -/
import Derived.Test.YtkkbhkpeglcodaaGreatDoorRefV5c
namespace Go.Proofs.YtkkbhkpeglcodaaGreatDoor
open Go.ChangeShapes Go.WideShapes Go.ChangeAt Go.RowKit
set_option linter.unusedVariables false

def SGood (az : List At) (i : Nat) : Prop := AttrOk (az.getD i at0) ∧ ∀ j, j < i → (az.getD j at0).name ≠ (az.getD i at0).name

set_option maxRecDepth 100000 in
set_option maxHeartbeats 4000000 in
theorem rschema5_any (v : Value) (az : List At) (w : World) (h : AtIn w v az) (hl : az.length ≤ 1000) (hz : ∀ i, i < az.length → (az.getD i at0).name.size ≤ maxLen) :
    Calls Tryz.prog 66 #[v] w fun e w' => RF5 e (SchemaOk az) ∧ Below w.heap.size w w' := by
  obtain ⟨a, c, hav, _⟩ := h.shape
  subst hav
  have HI : Hid (AtIn w (.slice a az.length c) az) := h
  have HZ : Hid _ := hz
  clear h hz
  by_cases hlen : 1 ≤ az.length ∧ az.length ≤ 4
  case neg =>
    have HN : Hid (¬ SchemaOk az) := fun hh => hlen ⟨hh.1, hh.2.1⟩
    rcases (show az.length < 1 ∨ (¬ az.length < 1 ∧ 4 < az.length) by omega) with h1 | ⟨h1, h2⟩
    all_goals
      clear hlen
      go_enter Tryz.func66, Tryz.ntmps66
      go_wp2
      go_ret
      exact ⟨⟨0, rfl, Or.inr ⟨by omega, HN.out⟩⟩, Below.refl _ _⟩
  obtain ⟨hl1, hl4⟩ := hlen
  have g1 : ¬ (az.length : Int) < 1 := by omega
  have g2 : ¬ (4 : Int) < (az.length : Int) := by omega
  go_enter Tryz.func66, Tryz.ntmps66
  go_wp2_with fail
  go_loopg [18] az.length (fun kx s18 wr => ∃ i : Nat, s18 = .int .i64 (i : Int) ∧ i ≤ az.length ∧ kx = az.length - i ∧ Hid (Below w.heap.size w wr ∧ ∀ j, j < i → SGood az j))
  case atStart => exact ⟨0, rfl, Nat.zero_le _, rfl, (⟨Below.refl _ _, fun j hj => absurd hj (Nat.not_lt_zero _)⟩ : _ ∧ _)⟩
  case round =>
    obtain ⟨i, rfl, hi, rfl, I⟩ := hrel
    by_cases hlt : i < az.length
    case neg =>
      obtain rfl : i = az.length := by omega
      have HY : Hid (SchemaOk az) := ⟨hl1, hl4, I.out.2⟩
      go_wp2
      go_ret
      exact ⟨⟨-1, rfl, Or.inl ⟨rfl, HY.out⟩⟩, I.out.1⟩
    obtain ⟨g, hb, hg, hcd, k0, k1, k2, k3⟩ := (HI.out.below I.out.1).row i hlt
    subst hb
    obtain ⟨p, hp⟩ : ∃ p, p = az.getD i at0 := ⟨_, rfl⟩
    have HPI : Hid (p = az.getD i at0) := hp
    have hsz := HZ.out i hlt
    rw [← hp] at k0 k1 k2 k3 hsz
    clear hp
    obtain ⟨pn, pk, pm, px⟩ := p
    simp only at k0 k1 k2 k3 hsz
    have HNM : Hid _ := fun W => rname5_any pn W hsz
    go_wp2_with fail
    refine Calls.mono (HNM.out _) ?_
    rintro e w' ⟨⟨ok0, rfl, hok0⟩, hw'⟩
    subst w'
    obtain ⟨W1, hW1⟩ : ∃ W1, W1 = wr.alloc (.cells #[.string pn, .int .i64 pk, .int .i64 pm, .int .i64 px] 89) := ⟨_, rfl⟩
    have hB1 : Below w.heap.size w W1 := by rw [hW1]; exact I.out.1.trans ((vbel1 _ _).mono I.out.1.size)
    have zX : W1.heap[wr.heap.size]? = some (.cells #[.string pn, .int .i64 pk, .int .i64 pm, .int .i64 px] 89 (0, 0)) := by rw [hW1]; exact heap_alloc_new wr _
    rw [← hW1]
    have HX : Hid (W1.heap[wr.heap.size]? = some (.cells #[.string pn, .int .i64 pk, .int .i64 pm, .int .i64 px] 89 (0, 0)) ∧ Below w.heap.size w W1) := ⟨zX, hB1⟩
    have HGD : Hid (∀ j, j < i → SGood az j) := I.out.2
    have HOK0 : Hid (ok0 = true ↔ NameOk pn) := hok0
    clear zX hB1 hok0 hW1 k0 k1 k2 k3 I HNM
    generalize wr.heap.size = X at *
    have hid : i ≤ c := by omega
    go_wp2_with fail
    go_loopg [5, 30] i (fun kx s5 s30 wq => ∃ (j : Nat) (ok : Bool), s30 = .int .i64 (j : Int) ∧ s5 = .bool ok ∧ j ≤ i ∧ kx = i - j ∧ Hid (Below W1.heap.size W1 wq ∧ (ok = true ↔ (NameOk pn ∧ ∀ j', j' < j → (az.getD j' at0).name ≠ pn))))
    case atStart => exact ⟨0, ok0, rfl, rfl, Nat.zero_le _, rfl, (⟨Below.refl _ _, HOK0.out.trans ⟨fun q => ⟨q, fun j' hj' => absurd hj' (Nat.not_lt_zero _)⟩, fun q => q.1⟩⟩ : _ ∧ _)⟩
    case round =>
      obtain ⟨j, ok, rfl, rfl, hj, rfl, J⟩ := hrel
      have zq := (J.out.1.block X (lt_of_block HX.out.1)).trans HX.out.1
      have HXq : Hid (wr.heap[X]? = some (.cells #[.string pn, .int .i64 pk, .int .i64 pm, .int .i64 px] 89 (0, 0)) ∧ Below w.heap.size w wr) := ⟨zq, HX.out.2.trans (J.out.1.mono HX.out.2.size)⟩
      have x0 : wr.cell? ⟨X, 0, none⟩ = some (.string pn) := by simp [World.cell?, zq]
      have x1 : wr.cell? ⟨X, 1, none⟩ = some (.int .i64 pk) := by simp [World.cell?, zq]
      have x2 : wr.cell? ⟨X, 2, none⟩ = some (.int .i64 pm) := by simp [World.cell?, zq]
      have x3 : wr.cell? ⟨X, 3, none⟩ = some (.int .i64 px) := by simp [World.cell?, zq]
      have xl := lt_of_block zq
      clear zq
      by_cases hjl : j < i
      · obtain ⟨g', hb', hg', _, m0, m1, m2, m3⟩ := (HI.out.below HXq.out.2).row j (by omega)
        have hgg : g' = g := by simpa using hb'.symm
        subst hgg
        have HB : Hid (∀ o, Below W1.heap.size W1 (wr.alloc o)) := fun o => J.out.1.trans ((vbel1 _ _).mono J.out.1.size)
        have HJ : Hid (∀ ok' : Bool, (ok' = true ↔ (ok = true ∧ (az.getD j at0).name ≠ pn)) → (ok' = true ↔ (NameOk pn ∧ ∀ j', j' < j + 1 → (az.getD j' at0).name ≠ pn))) := fun ok' hh => by
          rw [hh, J.out.2]
          constructor
          · rintro ⟨⟨q1, q2⟩, q3⟩
            refine ⟨q1, fun j' hj' => ?_⟩
            by_cases e : j' = j
            · subst e; exact q3
            · exact q2 j' (by omega)
          · rintro ⟨q1, q2⟩
            exact ⟨⟨q1, fun j' hj' => q2 j' (by omega)⟩, q2 j (by omega)⟩
        generalize az.getD j at0 = y at m0 m1 m2 m3 HJ
        obtain ⟨yn, yo, yl, yh⟩ := y
        simp only at m0 m1 m2 m3 HJ
        cases ok with
        | false =>
          have HN := HJ.out false (by simp)
          have HN2 : Hid _ := HN
          clear HN HJ
          go_wp2
          go_roundg (i - (j + 1))
          case measure => omega
          case rel => exact ⟨j + 1, false, by go_num, rfl, by omega, rfl, (⟨HB.out _, HN2.out⟩ : _ ∧ _)⟩
        | true =>
          by_cases hnm : yn = pn
          · have HN2 : Hid _ := HJ.out false (by simp [hnm])
            subst hnm
            clear HJ
            go_wp2
            go_roundg (i - (j + 1))
            case measure => omega
            case rel => exact ⟨j + 1, false, by go_num, rfl, by omega, rfl, (⟨HB.out _, HN2.out⟩ : _ ∧ _)⟩
          · have HN2 : Hid _ := HJ.out true (by simp [hnm])
            have h1 : pn.toList ≠ yn.toList := fun e => hnm (toList_inj.1 e).symm
            have h2 : (pn.toList == yn.toList) = false := by simpa using h1
            clear HJ hnm
            go_wp2
            go_roundg (i - (j + 1))
            case measure => omega
            case rel => exact ⟨j + 1, true, by go_num, rfl, by omega, rfl, (⟨HB.out _, by have := HN2.out; simpa using this⟩ : _ ∧ _)⟩
      · obtain rfl : j = i := by omega
        have HPG : Hid (SGood az j ↔ (ok = true ∧ ((pk = 1 ∧ -2147483648 ≤ pm ∧ pm ≤ px ∧ px ≤ 2147483648) ∨ (pk = 2 ∧ pm = 0 ∧ px = 0)))) := by
          rw [Hid]
          unfold SGood AttrOk
          rw [← HPI.out]
          simp only
          rw [J.out.2]
          exact ⟨fun q => ⟨⟨q.1.1, q.2⟩, q.1.2⟩, fun q => ⟨⟨q.1.1, q.2⟩, q.1.2⟩⟩
        have HNX : Hid (SGood az j → ∀ j', j' < j + 1 → SGood az j') := fun hp j' hj' => by
          by_cases e : j' = j
          · subst e; exact hp
          · exact HGD.out j' (by omega)
        have HNO : Hid (¬ SGood az j → ¬ SchemaOk az) := fun hn hf => hn (hf.2.2 j hlt)
        have HBW : Hid (Below w.heap.size w wr) := HXq.out.2
        clear J HXq HX HPI HGD
        cases ok with
        | false =>
          have HN : Hid (¬ SchemaOk az) := HNO.out (fun hp => by have := (HPG.out.1 hp).1; cases this)
          clear HPG HNX HNO
          by_cases q1 : pk = 1
          · subst q1
            go_wp2
            go_ret
            exact ⟨⟨_, rfl, Or.inr ⟨by omega, HN.out⟩⟩, HBW.out⟩
          · have b1 : (pk == 1) = false := by simpa using q1
            go_wp2
            go_ret
            exact ⟨⟨_, rfl, Or.inr ⟨by omega, HN.out⟩⟩, HBW.out⟩
        | true =>
          by_cases q1 : pk = 1
          · have HP : Hid (SGood az j ↔ (-2147483648 ≤ pm ∧ pm ≤ px ∧ px ≤ 2147483648)) := by
              rw [Hid, HPG.out]
              constructor
              · rintro ⟨_, q | q⟩
                · exact q.2
                · exact absurd q.1 (by omega)
              · exact fun q => ⟨rfl, Or.inl ⟨q1, q⟩⟩
            clear HPG
            subst q1
            by_cases q2 : -2147483648 ≤ pm
            case neg =>
              have HN : Hid (¬ SchemaOk az) := HNO.out (fun hp => q2 (HP.out.1 hp).1)
              clear HP HNX HNO
              go_wp2
              go_ret
              exact ⟨⟨_, rfl, Or.inr ⟨by omega, HN.out⟩⟩, HBW.out⟩
            by_cases q3 : px ≤ 2147483648
            case neg =>
              have HN : Hid (¬ SchemaOk az) := HNO.out (fun hp => q3 (HP.out.1 hp).2.2)
              clear HP HNX HNO
              go_wp2
              go_ret
              exact ⟨⟨_, rfl, Or.inr ⟨by omega, HN.out⟩⟩, HBW.out⟩
            by_cases q4 : pm ≤ px
            case neg =>
              have HN : Hid (¬ SchemaOk az) := HNO.out (fun hp => q4 (HP.out.1 hp).2.1)
              clear HP HNX HNO
              go_wp2
              go_ret
              exact ⟨⟨_, rfl, Or.inr ⟨by omega, HN.out⟩⟩, HBW.out⟩
            have HY : Hid _ := HNX.out (HP.out.2 ⟨q2, q4, q3⟩)
            clear HP HNX HNO
            go_wp2
            go_roundg (az.length - (j + 1))
            case measure => omega
            case rel => exact ⟨j + 1, by go_num, by omega, rfl, (⟨HBW.out, HY.out⟩ : _ ∧ _)⟩
          · have b1 : (pk == 1) = false := by simpa using q1
            have HP : Hid (SGood az j ↔ (pk = 2 ∧ pm = 0 ∧ px = 0)) := by
              rw [Hid, HPG.out]
              constructor
              · rintro ⟨_, q | q⟩
                · exact absurd q.1 q1
                · exact q
              · exact fun q => ⟨rfl, Or.inr q⟩
            clear HPG
            by_cases q2 : pk = 2
            case neg =>
              have b2 : (pk == 2) = false := by simpa using q2
              have HN : Hid (¬ SchemaOk az) := HNO.out (fun hp => q2 (HP.out.1 hp).1)
              clear HP HNX HNO
              go_wp2
              go_ret
              exact ⟨⟨_, rfl, Or.inr ⟨by omega, HN.out⟩⟩, HBW.out⟩
            by_cases q3 : pm = 0
            case neg =>
              have b3 : (pm == 0) = false := by simpa using q3
              have HN : Hid (¬ SchemaOk az) := HNO.out (fun hp => q3 (HP.out.1 hp).2.1)
              clear HP HNX HNO
              subst q2
              go_wp2
              go_ret
              exact ⟨⟨_, rfl, Or.inr ⟨by omega, HN.out⟩⟩, HBW.out⟩
            by_cases q4 : px = 0
            case neg =>
              have b4 : (px == 0) = false := by simpa using q4
              have HN : Hid (¬ SchemaOk az) := HNO.out (fun hp => q4 (HP.out.1 hp).2.2)
              clear HP HNX HNO
              subst q2 q3
              go_wp2
              go_ret
              exact ⟨⟨_, rfl, Or.inr ⟨by omega, HN.out⟩⟩, HBW.out⟩
            have HY : Hid _ := HNX.out (HP.out.2 ⟨q2, q3, q4⟩)
            clear HP HNX HNO
            subst q2 q3 q4
            go_wp2
            go_roundg (az.length - (j + 1))
            case measure => omega
            case rel => exact ⟨j + 1, by go_num, by omega, rfl, (⟨HBW.out, HY.out⟩ : _ ∧ _)⟩
end Go.Proofs.YtkkbhkpeglcodaaGreatDoor
