/- The document's names of groups: Name, Read by trying. -/
import Derived.Test.YtiafamfnbpbfiaaGreatDoorRefDig
import Derived.Test.YtiafamfnbpbfiaaGreatDoorRefVal
import Derived.Test.YtiafamfnbpbfiaaGreatDoorGrRead
import Derived.Test.YtiafamfnbpbfiaaGreatDoorDyRef
namespace Go.Proofs.YtiafamfnbpbfiaaGreatDoor
open Go.ChangeShapes Go.WideShapes Go.ChangeAt Go.RowKit
set_option linter.unusedVariables false

set_option maxRecDepth 100000 in
set_option maxHeartbeats 1000000 in
theorem rgname_any (a : ByteArray) (x : Iv) (w : World) (ha : a.size ≤ 1000000) (h1 : i64 x.lev) (h2 : i64 x.idx) :
    Calls Tryz.prog 10 #[.string a, .agg #[.int .i64 x.lev, .int .i64 x.idx]] w fun e w' => e = .returned (.string (gname a x)) ∧ Below w.heap.size w w' := by
  obtain ⟨W0, hW0⟩ : ∃ W0, W0 = w.alloc (.cells #[.int .i64 x.lev, .int .i64 x.idx] 29) := ⟨_, rfl⟩
  have hbw : Below w.heap.size w W0 := by rw [hW0]; exact dbel1 _ _
  have f0 : W0.cell? ⟨w.heap.size, 0, none⟩ = some (.int .i64 x.lev) := by rw [hW0]; simp
  have f1 : W0.cell? ⟨w.heap.size, 1, none⟩ = some (.int .i64 x.idx) := by rw [hW0]; simp
  obtain ⟨ι, F, _, hF0, hFb, hFc⟩ := grown_fam W0
  have F0 : ∀ i, (F i).cell? ⟨w.heap.size, 0, none⟩ = some (.int .i64 x.lev) := fun i => cell_grown f0 (hFb i)
  have F1 : ∀ i, (F i).cell? ⟨w.heap.size, 1, none⟩ = some (.int .i64 x.idx) := fun i => cell_grown f1 (hFb i)
  have HF : Hid ((∃ i, { W0 with drawn := W0.drawn + 1 } = F i) ∧ (∀ i, Below W0.heap.size W0 (F i)) ∧ (∀ i W, Below W0.heap.size (F i) W → ∃ j, W = F j)) := ⟨hF0, hFb, hFc⟩
  have HB0 : Hid (Below w.heap.size w W0) := hbw
  have HC1 : Hid (∀ i, Calls Tryz.prog 32 #[.int .i64 x.lev] (F i) fun e w' => e = .returned (.string (dec x.lev)) ∧ Below (F i).heap.size (F i) w') := fun i => digits_any x.lev _ h1
  have HC2 : Hid (∀ i, Calls Tryz.prog 32 #[.int .i64 x.idx] (F i) fun e w' => e = .returned (.string (dec x.idx)) ∧ Below (F i).heap.size (F i) w') := fun i => digits_any x.idx _ h2
  have s1 := dec_size x.lev h1
  have s2 := dec_size x.idx h2
  have HG : Hid (gname a x = a ++ ⟨#[46]⟩ ++ dec x.lev ++ ⟨#[46]⟩ ++ dec x.idx) := (rfl : gname a x = a ++ ⟨#[46]⟩ ++ dec x.lev ++ ⟨#[46]⟩ ++ dec x.idx)
  clear hF0 hFb hFc hbw f0 f1
  generalize dec x.lev = d1 at *
  generalize dec x.idx = d2 at *
  go_enter Tryz.func10, Tryz.ntmps10
  go_wp2_with fail
  rw [← hW0]
  refine wp_region_fam F HF.out.1 (by kernel_rfl) (by kernel_rfl) ?_
  repeat (go_big_quiet_step (first
    | (go_at_call_of 32 (Value.int .i64 x.lev); refine Calls.mono (HC1.out _) ?_; rintro e' w' ⟨hs, hb⟩; exact ⟨hs, HF.out.2.2 _ _ (hb.mono (HF.out.2.1 _).size)⟩)
    | (go_at_call_of 32 (Value.int .i64 x.idx); refine Calls.mono (HC2.out _) ?_; rintro e' w' ⟨hs, hb⟩; exact ⟨hs, HF.out.2.2 _ _ (hb.mono (HF.out.2.1 _).size)⟩)))
  refine wpQuiet_nil ?_
  rintro _ ⟨i, rfl⟩
  have BF := HB0.out.trans ((HF.out.2.1 i).mono HB0.out.size)
  go_wp2
  go_ret
  exact ⟨by rw [HG.out]; rfl, BF⟩
/-- A text that is a group's name. -/
def GName (s : ByteArray) (L : Int) : Prop := ∃ (a : ByteArray) (l i n : Nat), L = n ∧ NameOk a ∧ l ≤ n ∧ n ≤ 8 ∧ i < 2 ^ l ∧ gname a ⟨l, i⟩ = s
theorem first_of {s a : ByteArray} {k l i : Nat} (ha : NameOk a) (h : gname a ⟨l, i⟩ = s) (hk : ∀ j (hj : j < s.size), j < k → s[j] ≠ 46) (hks : k ≤ s.size) (hend : ∀ hj : k < s.size, s[k] = 46) : s.extract 0 k = a := by
  have hl := gname_list a l i
  rw [h] at hl
  have hsz : s.size = a.size + 1 + (Lib.decDigits l ++ 46 :: Lib.decDigits i).length := by
    have : s.data.toList.length = a.data.toList.length + ((Lib.decDigits l ++ 46 :: Lib.decDigits i).length + 1) := by rw [hl]; simp
    have h2 : s.size = s.data.toList.length := by simp
    have h3 : a.size = a.data.toList.length := by simp
    omega
  have hget : ∀ j (hj : j < s.size), s[j] = s.data.toList[j]'(by simpa using hj) := fun j hj => rfl
  have hat : ∀ hj : a.size < s.size, s[a.size] = 46 := fun hj => by
    rw [hget]
    have e : s.data.toList[a.size]? = some 46 := by rw [hl, List.getElem?_append_right (by simp)]; simp
    rw [List.getElem?_eq_getElem (by simpa using hj)] at e
    exact Option.some.inj e
  have hka : k = a.size := by
    rcases Nat.lt_trichotomy k a.size with q | q | q
    · exfalso
      have hj : k < s.size := by omega
      have e1 := hend hj
      rw [hget] at e1
      have e2 : s.data.toList[k]? = a.data.toList[k]? := by rw [hl, List.getElem?_append_left (by simpa using q)]
      rw [List.getElem?_eq_getElem (by simpa using hj), List.getElem?_eq_getElem (by simpa using q), e1] at e2
      exact name_no46 ha ((Option.some.inj e2) ▸ List.getElem_mem _)
    · exact q
    · exact absurd (hat (by omega)) (hk a.size (by omega) q)
  subst hka
  apply ByteArray.ext
  apply Array.toList_inj.1
  rw [ByteArray.data_extract, Array.toList_extract, hl]
  simp
def RdRef (e : Ending) (s : ByteArray) (L : Int) : Prop :=
  (∃ (a : ByteArray) (l i n : Nat), L = n ∧ NameOk a ∧ l ≤ n ∧ n ≤ 8 ∧ i < 2 ^ l ∧ gname a ⟨l, i⟩ = s ∧ e = .returned (.tuple #[.string a, .agg #[.int .i64 l, .int .i64 i], .bool true])) ∨
  (¬ GName s L ∧ e = .returned (.tuple #[.string ⟨#[]⟩, .agg #[.int .i64 0, .int .i64 0], .bool false]))

set_option maxRecDepth 100000 in
set_option maxHeartbeats 4000000 in
theorem rread_any (s : ByteArray) (L : Int) (w : World) (hs : s.size ≤ 1000) :
    Calls Tryz.prog 7 #[.string s, .int .i64 L] w fun e w' => RdRef e s L ∧ Below w.heap.size w w' := by
  obtain ⟨W0, hW0⟩ : ∃ W0, W0 = w.alloc (.cells #[.int .i64 0, .int .i64 0] 29) := ⟨_, rfl⟩
  have HZ : Hid (W0.heap[w.heap.size]? = some (.cells #[.int .i64 0, .int .i64 0] 29 (0, 0)) ∧ Below w.heap.size w W0) := by
    rw [hW0]; exact ⟨heap_alloc_new w _, dbel1 _ _⟩
  go_enter Tryz.func7, Tryz.ntmps7
  go_wp2_with fail
  rw [← hW0]
  clear hW0
  go_loopg [7] s.size (fun kx s7 wr => ∃ k : Nat, s7 = .int .i64 k ∧ k ≤ s.size ∧ kx = s.size - k ∧ W0 = wr ∧ Hid (∀ j (hj : j < s.size), j < k → s[j] ≠ 46))
  case atStart => exact ⟨0, rfl, Nat.zero_le _, rfl, rfl, (fun j _ h => absurd h (Nat.not_lt_zero _) : ∀ j (hj : j < s.size), j < 0 → s[j] ≠ 46)⟩
  case round =>
    obtain ⟨k, rfl, hk, rfl, rfl, HK⟩ := hrel
    by_cases hgo : ∃ hj : k < s.size, s[k] ≠ 46
    · obtain ⟨hj, hne⟩ := hgo
      have HK2 : Hid (∀ j (hj : j < s.size), j < k + 1 → s[j] ≠ 46) := fun j hj' hjk => by
        by_cases e : j = k
        · subst e; exact hne
        · exact HK.out j hj' (by omega)
      have hne2 : ¬ (s[k].toNat : Int) = 46 := fun e => hne (UInt8.toNat_inj.1 (by have : (46 : UInt8).toNat = 46 := rfl
                                                                                   omega))
      have hne3 : ((s[k].toNat : Int) == 46) = false := by simpa using hne2
      clear hne
      go_wp2
      go_roundg (s.size - (k + 1))
      case measure => omega
      case rel => exact ⟨k + 1, by go_num, by omega, rfl, rfl, HK2⟩
    · have HEND : Hid (∀ hj : k < s.size, s[k] = 46) := fun hj => Classical.byContradiction fun h => hgo ⟨hj, h⟩
      have HNX : Hid (∀ a l i, NameOk a → gname a ⟨(l : Nat), (i : Nat)⟩ = s → s.extract 0 k = a) := fun a l i ha h => first_of ha h HK.out hk HEND.out
      have hend2 : (¬ k < s.size) ∨ (∃ hj : k < s.size, (s[k].toNat : Int) = 46) := by
        by_cases hj : k < s.size
        · refine Or.inr ⟨hj, ?_⟩
          have := HEND.out hj
          rw [this]; rfl
        · exact Or.inl hj
      have hasz : (s.extract 0 k).size ≤ 1000 := by simp; omega
      have HRN : Hid _ := fun W => rname_any (s.extract 0 k) W (by unfold maxLen; omega)
      have hL8 : Hid (¬ (0 ≤ L ∧ L ≤ 8) → ¬ GName s L) := fun h ⟨a, l, i, n, h1, _, _, h4, _, _⟩ => h (by omega)
      clear HK HEND hgo
      rcases hend2 with hj | ⟨hj, he⟩
      all_goals
        go_wp2_with fail
        refine Calls.mono (HRN.out _) ?_
        rintro e W1 ⟨⟨b, rfl, hb⟩, hw1⟩
        subst W1
        cases b with
        | false =>
          have HNO : Hid (¬ GName s L) := fun ⟨a, l, i, n, h1, h2, _, _, _, h6⟩ => by
            have e := HNX.out a l i h2 h6
            rw [e] at hb
            exact absurd (hb.2 h2) (by simp)
          have z7 := HZ.out.1
          have f0 := box_cell (j := 0) z7 (by simp)
          have f1 := box_cell (j := 1) z7 (by simp)
          have ff : ∀ o, W0.frozen? ⟨w.heap.size, o, none⟩ = false := fun o => by simp [World.frozen?, z7]
          have fl := lt_of_block z7
          simp at f0 f1
          clear z7 hb HNX
          go_wp2_with fail
          refine bodyPost_ret (v := .tuple #[.string ⟨#[]⟩, .agg #[.int .i64 0, .int .i64 0], .bool false]) (by simp [results, Tryz.results7, go_sem, *]) rfl ⟨Or.inr ⟨HNO.out, rfl⟩, ?_⟩
          exact (HZ.out.2.setCell (by simp) _).setCell (by simp) _
        | true =>
          have HNM : Hid (NameOk (s.extract 0 k)) := hb.1 rfl
          clear hb HRN
          by_cases hLv : 0 ≤ L ∧ L ≤ 8
          · obtain ⟨n, rfl⟩ : ∃ n : Nat, L = n := ⟨L.toNat, by omega⟩
            have hn : n ≤ 8 := by omega
            clear hLv hL8
            have HPW : Hid (∀ l : Nat, l ≤ 8 → ∀ W, Calls Tryz.prog 30 #[.int .i64 l] W fun e w' => e = .returned (.int .i64 ((2 ^ l : Nat) : Int)) ∧ w' = W) := fun l hl W => power_any l W (by omega)
            have HGN : Hid (∀ (l i : Nat), l ≤ 8 → i ≤ 256 → ∀ W, Calls Tryz.prog 10 #[.string (s.extract 0 k), .agg #[.int .i64 l, .int .i64 i]] W fun e w' => e = .returned (.string (gname (s.extract 0 k) ⟨l, i⟩)) ∧ Below W.heap.size W w') := fun l i hl hi W => rgname_any (s.extract 0 k) ⟨l, i⟩ W (by omega) (by unfold i64; simp; omega) (by unfold i64; simp; omega)
            obtain ⟨a, hax⟩ : ∃ a, s.extract 0 k = a := ⟨_, rfl⟩
            rw [hax] at HNX hasz HNM HGN
            go_wp2_with fail
            go_loopg [8] (n + 1) (fun kx s8 wr => ∃ l : Nat, s8 = .int .i64 l ∧ l ≤ n + 1 ∧ kx = n + 1 - l ∧ Hid (Below W0.heap.size W0 wr) ∧ Hid (∀ l' i', l' < l → i' < 2 ^ l' → gname a ⟨(l' : Nat), (i' : Nat)⟩ ≠ s))
            case atStart => exact ⟨0, rfl, Nat.zero_le _, rfl, (Below.refl _ _ : Below W0.heap.size W0 W0), (fun l' _ h => absurd h (Nat.not_lt_zero _) : ∀ l' i', l' < 0 → i' < 2 ^ l' → gname a ⟨(l' : Nat), (i' : Nat)⟩ ≠ s)⟩
            case round =>
              obtain ⟨l, rfl, hl, rfl, HB, HNE⟩ := hrel
              by_cases hln : l ≤ n
              · have hp256 := pow_le_256 (show l ≤ 8 by omega)
                have HPl : Hid _ := HPW.out l (by omega)
                obtain ⟨P, hP⟩ : ∃ P : Nat, P = 2 ^ l := ⟨_, rfl⟩
                have HP : Hid (P = 2 ^ l) := hP
                rw [← hP] at hp256 HPl
                clear hP
                go_wp2_with fail
                rename World => wq
                go_loopg [9] P (fun kx s9 wr => ∃ i : Nat, s9 = .int .i64 i ∧ i ≤ P ∧ kx = P - i ∧ Hid (Below W0.heap.size W0 wr) ∧ Hid (∀ i', i' < i → gname a ⟨l, (i' : Nat)⟩ ≠ s))
                case atStart => exact ⟨0, rfl, Nat.zero_le _, rfl, HB, (fun i' h => absurd h (Nat.not_lt_zero _) : ∀ i', i' < 0 → gname a ⟨l, (i' : Nat)⟩ ≠ s)⟩
                case round =>
                  obtain ⟨i, rfl, hi, rfl, HB2, HNI⟩ := hrel
                  by_cases hip : i < P
                  · have HGl : Hid _ := HGN.out l i (by omega) (by omega)
                    go_wp2_with fail
                    refine Calls.mono (HPl.out _) ?_
                    rintro e W5 ⟨rfl, hw5⟩
                    subst W5
                    go_wp2_with fail
                    refine Calls.mono (HGl.out _) ?_
                    rintro e W6 ⟨rfl, b6⟩
                    have HB6 : Hid (Below W0.heap.size W0 W6) := HB2.out.trans (b6.mono HB2.out.size)
                    clear b6
                    by_cases hy : gname a ⟨l, i⟩ = s
                    · have HY : Hid (gname a ⟨l, i⟩ = s) := hy
                      rw [hy]
                      have z7 := (HB6.out.block w.heap.size (lt_of_block HZ.out.1)).trans HZ.out.1
                      have f0 := box_cell (j := 0) z7 (by simp)
                      have f1 := box_cell (j := 1) z7 (by simp)
                      have ff : ∀ o, W6.frozen? ⟨w.heap.size, o, none⟩ = false := fun o => by simp [World.frozen?, z7]
                      have fl := lt_of_block z7
                      simp at f0 f1
                      clear z7 hy
                      go_wp2_with fail
                      refine bodyPost_ret (v := .tuple #[.string a, .agg #[.int .i64 l, .int .i64 i], .bool true]) (by simp [results, Tryz.results7, go_sem, *]) rfl ⟨Or.inl ⟨a, l, i, n, rfl, HNM.out, hln, hn, by rw [← HP.out]; exact hip, HY.out, rfl⟩, ?_⟩
                      exact ((HZ.out.2.trans (HB6.out.mono HZ.out.2.size)).setCell (by simp) _).setCell (by simp) _
                    · have HNI2 : Hid (∀ i', i' < i + 1 → gname a ⟨l, (i' : Nat)⟩ ≠ s) := fun i' h' => by
                        by_cases e : i' = i
                        · subst e; exact hy
                        · exact HNI.out i' (by omega)
                      generalize gname a ⟨l, i⟩ = t at hy ⊢
                      have hx1 : t.toList ≠ s.toList := fun h => hy (toList_inj.1 h)
                      have hx2 : (t.toList == s.toList) = false := by simpa using hx1
                      clear hy
                      go_wp2_with fail
                      go_roundg (P - (i + 1))
                      case measure => omega
                      case rel => exact ⟨i + 1, by go_num, by omega, rfl, HB6, HNI2⟩
                  · have HNE2 : Hid (∀ l' i', l' < l + 1 → i' < 2 ^ l' → gname a ⟨(l' : Nat), (i' : Nat)⟩ ≠ s) := fun l' i' h' hi' => by
                      by_cases e : l' = l
                      · subst e
                        exact HNI.out i' (by have := HP.out; omega)
                      · exact HNE.out l' i' (by omega) hi'
                    go_wp2_with fail
                    refine Calls.mono (HPl.out _) ?_
                    rintro e W5 ⟨rfl, hw5⟩
                    subst W5
                    go_wp2_with fail
                    go_roundg (n + 1 - (l + 1))
                    case measure => omega
                    case rel => exact ⟨l + 1, by go_num, by omega, rfl, HB2, HNE2⟩
              · have HNO : Hid (¬ GName s n) := fun ⟨a', l', i', n', h1, h2, h3, h4, h5, h6⟩ => by
                  have e := HNX.out a' l' i' h2 h6
                  subst e
                  obtain rfl : n = n' := by omega
                  exact HNE.out l' i' (by omega) h5 h6
                have z7 := (HB.out.block w.heap.size (lt_of_block HZ.out.1)).trans HZ.out.1
                have f0 := box_cell (j := 0) z7 (by simp)
                have f1 := box_cell (j := 1) z7 (by simp)
                have ff : ∀ o, wr.frozen? ⟨w.heap.size, o, none⟩ = false := fun o => by simp [World.frozen?, z7]
                have fl := lt_of_block z7
                simp at f0 f1
                clear z7
                go_wp2_with fail
                refine bodyPost_ret (v := .tuple #[.string ⟨#[]⟩, .agg #[.int .i64 0, .int .i64 0], .bool false]) (by simp [results, Tryz.results7, go_sem, *]) rfl ⟨Or.inr ⟨HNO.out, rfl⟩, ?_⟩
                exact ((HZ.out.2.trans (HB.out.mono HZ.out.2.size)).setCell (by simp) _).setCell (by simp) _
          · have HNO : Hid (¬ GName s L) := hL8.out hLv
            have z7 := HZ.out.1
            have f0 := box_cell (j := 0) z7 (by simp)
            have f1 := box_cell (j := 1) z7 (by simp)
            have ff : ∀ o, W0.frozen? ⟨w.heap.size, o, none⟩ = false := fun o => by simp [World.frozen?, z7]
            have fl := lt_of_block z7
            simp at f0 f1
            clear z7 HNX hL8
            rcases (show L < 0 ∨ (¬ L < 0 ∧ 8 < L) by omega) with h8 | ⟨h8, h9⟩
            all_goals
              clear hLv
              go_wp2_with fail
              refine bodyPost_ret (v := .tuple #[.string ⟨#[]⟩, .agg #[.int .i64 0, .int .i64 0], .bool false]) (by simp [results, Tryz.results7, go_sem, *]) rfl ⟨Or.inr ⟨HNO.out, rfl⟩, ?_⟩
              exact (HZ.out.2.setCell (by simp) _).setCell (by simp) _
end Go.Proofs.YtiafamfnbpbfiaaGreatDoor
