/- wigwaglaw06.FilterNumbers, FilterStrings, walked. -/
import Derived.Test.YtcckoncgfmbhiabDoorFilPrt2
import Derived.Test.YtcckoncgfmbhiabDoorFilDoor
import Derived.Test.YtcckoncgfmbhiabDoorValName
namespace Go.Proofs.YtcckoncgfmbhiabDoor
open Go.ChangeShapes Go.WideShapes Go.ChangeAt Go.RowKit
set_option linter.unusedVariables false

/-- One predicate in a slice of its own. -/
theorem plin_one (w : World) (p : Pl) : PlIn (w.alloc (.cells #[.string (ba p.name), .int .i64 p.op, .int .i64 p.lo, .int .i64 p.hi, .string (ba p.str)] 24)) (.slice (some ⟨w.heap.size, 0, none⟩) 1 1) [p] := by
  obtain ⟨g0, g1, g2, g3, g4, _⟩ := five (heap_alloc_new w (.cells #[.string (ba p.name), .int .i64 p.op, .int .i64 p.lo, .int .i64 p.hi, .string (ba p.str)] 24))
  refine ⟨_, 1, rfl, fun _ => ⟨w.heap.size, rfl, by simp, Nat.le_refl _, fun i hi j hj => ?_⟩⟩
  obtain rfl : i = 0 := by simp at hi; omega
  rcases (show j = 0 ∨ j = 1 ∨ j = 2 ∨ j = 3 ∨ j = 4 by omega) with rfl | rfl | rfl | rfl | rfl
  · exact g0
  · exact g1
  · exact g2
  · exact g3
  · exact g4
theorem prn_nums (lo hi : Int) (h1 : -9999999999 ≤ lo) (h2 : lo ≤ 9999999999) (h3 : -9999999999 ≤ hi) (h4 : hi ≤ 9999999999) : PrnL ⟨[110], 1, lo, hi, []⟩ :=
  ⟨⟨⟨110, [], rfl, by decide⟩, by simp [alnum, isLetter], Or.inl ⟨rfl, h1, h2, h3, h4, rfl⟩⟩, by simp, by simp⟩
theorem nums_len (lo hi : Int) (h1 : -9999999999 ≤ lo) (h2 : lo ≤ 9999999999) (h3 : -9999999999 ≤ hi) (h4 : hi ≤ 9999999999) : (pF [⟨[110], 1, lo, hi, []⟩]).length ≤ 300 := by
  have := itoa_len11 lo h1 h2
  have := itoa_len11 hi h3 h4
  have e : pF [⟨[110], 1, lo, hi, []⟩] = [110] ++ [32, 105, 110, 32] ++ Lib.itoa lo ++ [46, 46] ++ Lib.itoa hi := by unfold pF; exact if_pos rfl
  rw [e]
  simp; omega
set_option maxRecDepth 100000 in
set_option maxHeartbeats 4000000 in
theorem nums_walk (a0 a1 : Int) (w : World) (hE : ErrType w) (hV : Env w) :
    Calls Tryd.prog 3 #[.int .i64 a0, .int .i64 a1] w fun e w' => e = .returned (.bool true) ∧ Below w.heap.size w w' := by
  have HE : Hid (Env w ∧ ErrType w) := ⟨hV, hE⟩
  clear hV hE
  by_cases hr : a0 ≤ 9999999999 ∧ -9999999999 ≤ a0 ∧ a1 ≤ 9999999999 ∧ -9999999999 ≤ a1
  · obtain ⟨r1, r2, r3, r4⟩ := hr
    have HPL : Hid (PrnL ⟨[110], 1, a0, a1, []⟩) := prn_nums a0 a1 r2 r1 r4 r3
    have hln := nums_len a0 a1 r2 r1 r4 r3
    have HPR : Hid (pars (ba (pF [⟨[110], 1, a0, a1, []⟩])).data.toList = .ok [⟨[110], 1, a0, a1, []⟩] []) := by
      rw [Hid, ba_list]
      exact pars_back _ (fun p hp => by rw [List.mem_singleton.1 hp]; exact HPL.out.prn) (by simp)
    have hsz : (ba (pF [⟨[110], 1, a0, a1, []⟩])).size ≤ 300 := by rw [ba_size]; exact hln
    have HW : Hid (∀ W, Env W → PlIn W (.slice (some ⟨w.heap.size, 0, none⟩) 1 1) [⟨[110], 1, a0, a1, []⟩] → Calls Tryd.prog 7 #[.slice (some ⟨w.heap.size, 0, none⟩) 1 1] W fun e w' => e = .returned (.string (ba (pF [⟨[110], 1, a0, a1, []⟩]))) ∧ Below W.heap.size W w') := fun W E h =>
      print_any _ [⟨[110], 1, a0, a1, []⟩] W E h (by simp) (by simp) (fun p hp => by rw [List.mem_singleton.1 hp]; exact HPL.out)
    have HI : Hid _ := plin_one w ⟨[110], 1, a0, a1, []⟩
    clear hln
    generalize ba (pF [⟨[110], 1, a0, a1, []⟩]) = txt at *
    go_enter Tryd.func3, Tryd.ntmps3
    go_wp2_with fail
    refine Calls.mono (HW.out _ (HE.out.1.below (pbel1 _ _) HE.out.1.lt) HI.out) ?_
    rintro e W1 ⟨rfl, b1⟩
    have HB1 : Hid (Below w.heap.size w W1) := (pbel1 w _).trans (b1.mono (by simp))
    have HE1 : Hid (Env W1 ∧ ErrType W1) := ⟨HE.out.1.below HB1.out HE.out.1.lt, HE.out.2.below HE.out.2.lt HB1.out⟩
    clear b1
    go_wp2_with fail
    refine Calls.mono (parse_any txt _ HE1.out.1 (by unfold maxLen; omega)) ?_
    rintro e W2 ⟨hA, b2⟩
    obtain ⟨v, rfl, hrow⟩ := hA.ok (by omega) HPR.out
    obtain ⟨g, c, hv, hgc, hBg, hglt, hcells⟩ := fil_cells hrow (by simp) ⟨[], 0, 0, 0, []⟩
    have k2 : W2.cell? ⟨g, 2, none⟩ = some (.int .i64 a0) := hcells 0 (by simp) 2 (by omega)
    have k3 : W2.cell? ⟨g, 3, none⟩ = some (.int .i64 a1) := hcells 0 (by simp) 3 (by omega)
    have hv' : v = .slice (some ⟨g, 0, none⟩) 1 c := hv
    subst hv'
    have HB2 : Hid (Below w.heap.size w W2) := HB1.out.trans (b2.mono HB1.out.size)
    have HE2 : Hid (Env W2 ∧ ErrType W2) := ⟨HE.out.1.below HB2.out HE.out.1.lt, HE.out.2.below HE.out.2.lt HB2.out⟩
    clear hA b2 hrow hcells hv
    go_wp2_with fail
    refine Calls.mono (awake6_any _ HE2.out.1 HE2.out.2) ?_
    rintro e W3 ⟨rfl, b3⟩
    have q2 := (b3.cell (p := ⟨g, 2, none⟩) hglt).trans k2
    have q3 := (b3.cell (p := ⟨g, 3, none⟩) hglt).trans k3
    have hgl3 : g < W3.heap.size := Nat.lt_of_lt_of_le hglt b3.size
    have HB3 : Hid (Below w.heap.size w W3) := HB2.out.trans (b3.mono HB2.out.size)
    clear b3 k2 k3 hglt
    go_wp2
    go_ret
    exact ⟨rfl, HB3.out⟩
  · rcases (show 9999999999 < a0 ∨ (¬ 9999999999 < a0 ∧ a0 < -9999999999) ∨ (¬ 9999999999 < a0 ∧ ¬ a0 < -9999999999 ∧ 9999999999 < a1) ∨ (¬ 9999999999 < a0 ∧ ¬ a0 < -9999999999 ∧ ¬ 9999999999 < a1 ∧ a1 < -9999999999) by omega) with h1 | ⟨h1, h2⟩ | ⟨h1, h2, h3⟩ | ⟨h1, h2, h3, h4⟩
    all_goals
      clear hr
      go_enter Tryd.func3, Tryd.ntmps3
      go_wp2_with fail
      refine Calls.mono (awake6_any _ HE.out.1 HE.out.2) ?_
      rintro e W3 ⟨rfl, b3⟩
      have HB3 : Hid (Below w.heap.size w W3) := b3
      clear b3
      go_wp2
      go_ret
      exact ⟨rfl, HB3.out⟩
theorem str_bytes {s : ByteArray} (h : StrOk s) : (∀ c ∈ s.data.toList, 32 ≤ c.toNat ∧ c.toNat ≤ 126) ∧ s.data.toList.length ≤ 40 := by
  refine ⟨fun c hc => ?_, ?_⟩
  · obtain ⟨i, hi, rfl⟩ := List.getElem_of_mem hc
    have h1 := h.ch i (by simpa using hi)
    have e : s.data.toList[i] = s[i]'(by simpa using hi) := rfl
    rw [e]; omega
  · have := h.le
    simpa using this
theorem prn_strs (t : List UInt8) (op : Int) (ho : op = 2 ∨ op = 3) (h : ∀ c ∈ t, 32 ≤ c.toNat ∧ c.toNat ≤ 126) (hl : t.length ≤ 40) : PrnL ⟨[110], op, 0, 0, t⟩ :=
  ⟨⟨⟨110, [], rfl, by decide⟩, by simp [alnum, isLetter], Or.inr ⟨ho, rfl, rfl, h⟩⟩, by simp, by simp only; omega⟩
theorem strs_len (t : List UInt8) (op : Int) (ho : op = 2 ∨ op = 3) (hl : t.length ≤ 40) : (pF [⟨[110], op, 0, 0, t⟩]).length ≤ 300 := by
  have := qL_len t
  unfold pF pP
  simp only
  rw [if_neg (by omega)]
  split <;> simp <;> omega
theorem ba_self (s : ByteArray) : ba s.data.toList = s := by cases s; simp [ba]
set_option maxRecDepth 100000 in
set_option maxHeartbeats 4000000 in
theorem strs_walk (a0 : ByteArray) (a1 : Int) (w : World) (hE : ErrType w) (hV : Env w) (w0 : a0.size ≤ maxLen) :
    Calls Tryd.prog 4 #[.string a0, .int .i64 a1] w fun e w' => e = .returned (.bool true) ∧ Below w.heap.size w w' := by
  have HE : Hid (Env w ∧ ErrType w) := ⟨hV, hE⟩
  have HS : Hid _ := str_any a0 w w0
  clear hV hE
  by_cases hstr : StrOk a0
  · by_cases ho : a1 = 2 ∨ a1 = 3
    · obtain ⟨t, ht⟩ : ∃ t, t = a0.data.toList := ⟨_, rfl⟩
      obtain ⟨hb1, hb2⟩ := str_bytes hstr
      rw [← ht] at hb1 hb2
      have ea : a0 = ba t := by rw [ht, ba_self]
      have HSO : Hid (StrOk a0) := hstr
      have HPL : Hid (PrnL ⟨[110], a1, 0, 0, t⟩) := prn_strs t a1 ho hb1 hb2
      have HPR : Hid (pars (ba (pF [⟨[110], a1, 0, 0, t⟩])).data.toList = .ok [⟨[110], a1, 0, 0, t⟩] []) := by
        rw [Hid, ba_list]
        exact pars_back _ (fun p hp => by rw [List.mem_singleton.1 hp]; exact HPL.out.prn) (by simp)
      have hsz : (ba (pF [⟨[110], a1, 0, 0, t⟩])).size ≤ 300 := by rw [ba_size]; exact strs_len t a1 ho hb2
      have HW : Hid (∀ W, Env W → PlIn W (.slice (some ⟨w.heap.size, 0, none⟩) 1 1) [⟨[110], a1, 0, 0, t⟩] → Calls Tryd.prog 7 #[.slice (some ⟨w.heap.size, 0, none⟩) 1 1] W fun e w' => e = .returned (.string (ba (pF [⟨[110], a1, 0, 0, t⟩]))) ∧ Below W.heap.size W w') := fun W E h =>
        print_any _ [⟨[110], a1, 0, 0, t⟩] W E h (by simp) (by simp) (fun p hp => by rw [List.mem_singleton.1 hp]; exact HPL.out)
      have HI : Hid _ := plin_one w ⟨[110], a1, 0, 0, t⟩
      have HC : Hid (∀ (W : World) (g : Nat), (∀ i, i < 1 → ∀ j, j < 5 → W.cell? ⟨g, i * 5 + j, none⟩ = (([⟨[110], a1, 0, 0, t⟩] : List Pl).getD i ⟨[], 0, 0, 0, []⟩).cells[j]?) → W.cell? ⟨g, 1, none⟩ = some (.int .i64 a1) ∧ W.cell? ⟨g, 4, none⟩ = some (.string a0)) := fun W g h => ⟨h 0 (by omega) 1 (by omega), by rw [ea]; exact h 0 (by omega) 4 (by omega)⟩
      rw [Hid] at HI
      simp only at HI
      rw [← ea] at HI
      have HI : Hid _ := HI
      generalize ba (pF [⟨[110], a1, 0, 0, t⟩]) = txt at *
      have hop2 : ((a1 == 2) = false ∧ (a1 == 3) = true ∧ a1 = 3) ∨ ((a1 == 2) = true ∧ a1 = 2) := by
        rcases ho with h | h
        · exact Or.inr ⟨by simp [h], h⟩
        · exact Or.inl ⟨by simp [h], by simp [h], h⟩
      clear hstr hb1 hb2 ht ea ho
      rcases hop2 with ⟨o1, o2, rfl⟩ | ⟨o1, rfl⟩
      all_goals
        go_enter Tryd.func4, Tryd.ntmps4
        go_wp2_with fail
        refine Calls.mono HS.out ?_
        rintro e W' ⟨hsy, hW'⟩
        subst W'
        obtain ⟨bb, rfl, hbb⟩ := hsy
        obtain rfl : bb = true := hbb.2 HSO.out
        clear hbb
        go_wp2_with fail
        refine Calls.mono (HW.out _ (HE.out.1.below (pbel1 _ _) HE.out.1.lt) HI.out) ?_
        rintro e W1 ⟨rfl, b1⟩
        have HB1 : Hid (Below w.heap.size w W1) := (pbel1 w _).trans (b1.mono (by simp))
        have HE1 : Hid (Env W1 ∧ ErrType W1) := ⟨HE.out.1.below HB1.out HE.out.1.lt, HE.out.2.below HE.out.2.lt HB1.out⟩
        clear b1
        go_wp2_with fail
        refine Calls.mono (parse_any txt _ HE1.out.1 (by unfold maxLen; omega)) ?_
        rintro e W2 ⟨hA, b2⟩
        obtain ⟨v, rfl, hrow⟩ := hA.ok (by omega) HPR.out
        obtain ⟨g, c, hv, hgc, hBg, hglt, hcells⟩ := fil_cells hrow (by simp) ⟨[], 0, 0, 0, []⟩
        obtain ⟨k1, k4⟩ := HC.out W2 g hcells
        have hv' : v = .slice (some ⟨g, 0, none⟩) 1 c := hv
        subst hv'
        have HB2 : Hid (Below w.heap.size w W2) := HB1.out.trans (b2.mono HB1.out.size)
        have HE2 : Hid (Env W2 ∧ ErrType W2) := ⟨HE.out.1.below HB2.out HE.out.1.lt, HE.out.2.below HE.out.2.lt HB2.out⟩
        clear hA b2 hrow hcells hv
        go_wp2_with fail
        refine Calls.mono (awake6_any _ HE2.out.1 HE2.out.2) ?_
        rintro e W3 ⟨rfl, b3⟩
        have q1 := (b3.cell (p := ⟨g, 1, none⟩) hglt).trans k1
        have q4 := (b3.cell (p := ⟨g, 4, none⟩) hglt).trans k4
        have hgl3 : g < W3.heap.size := Nat.lt_of_lt_of_le hglt b3.size
        have HB3 : Hid (Below w.heap.size w W3) := HB2.out.trans (b3.mono HB2.out.size)
        clear b3 k1 k4 hglt
        go_wp2
        go_ret
        exact ⟨rfl, HB3.out⟩
    · have HSO : Hid (StrOk a0) := hstr
      have o1 : (a1 == 2) = false := by simp; omega
      have o2 : (a1 == 3) = false := by simp; omega
      have o3 : ¬ a1 = 2 := by omega
      have o4 : ¬ a1 = 3 := by omega
      have o5 : (a1 != 2) = true := by simp; omega
      have o6 : (a1 != 3) = true := by simp; omega
      clear hstr ho
      go_enter Tryd.func4, Tryd.ntmps4
      go_wp2_with fail
      refine Calls.mono HS.out ?_
      rintro e W' ⟨hsy, hW'⟩
      subst W'
      obtain ⟨bb, rfl, hbb⟩ := hsy
      obtain rfl : bb = true := hbb.2 HSO.out
      clear hbb
      go_wp2_with fail
      refine Calls.mono (awake6_any _ HE.out.1 HE.out.2) ?_
      rintro e W3 ⟨rfl, b3⟩
      have HB3 : Hid (Below w.heap.size w W3) := b3
      clear b3
      go_wp2
      go_ret
      exact ⟨rfl, HB3.out⟩
  · have HSO : Hid (¬ StrOk a0) := hstr
    clear hstr
    go_enter Tryd.func4, Tryd.ntmps4
    go_wp2_with fail
    refine Calls.mono HS.out ?_
    rintro e W' ⟨hsy, hW'⟩
    subst W'
    obtain ⟨bb, rfl, hbb⟩ := hsy
    obtain rfl : bb = false := by
      cases bb with
      | false => rfl
      | true => exact absurd (hbb.1 rfl) HSO.out
    clear hbb
    go_wp2_with fail
    refine Calls.mono (awake6_any _ HE.out.1 HE.out.2) ?_
    rintro e W3 ⟨rfl, b3⟩
    have HB3 : Hid (Below w.heap.size w W3) := b3
    clear b3
    go_wp2
    go_ret
    exact ⟨rfl, HB3.out⟩
end Go.Proofs.YtcckoncgfmbhiabDoor
