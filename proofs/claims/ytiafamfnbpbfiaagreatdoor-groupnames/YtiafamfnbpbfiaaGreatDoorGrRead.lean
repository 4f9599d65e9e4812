/- strings.Cut at one byte; group.Read of a group's name. -/
import Derived.Test.YtiafamfnbpbfiaaGreatDoorGrSch
import Derived.Test.YtiafamfnbpbfiaaGreatDoorGrInj
import Derived.Test.YtiafamfnbpbfiaaGreatDoorShelfB
import Derived.Lib.AtoiAll
import Derived.Lib.AtoiErrMem
namespace Go.Proofs.YtiafamfnbpbfiaaGreatDoor
open Go.ChangeShapes Go.WideShapes Go.ChangeAt Go.RowKit
set_option linter.unusedVariables false

theorem dec_digit : ∀ (k u : Nat), u ≤ k → ∀ c ∈ Lib.decDigits u, 48 ≤ c.toNat ∧ c.toNat ≤ 57 := by
  intro k
  induction k with
  | zero => intro u h c hc; obtain rfl : u = 0 := by omega
            rw [Lib.decDigits_one (by omega)] at hc
            obtain rfl := List.mem_singleton.1 hc; decide
  | succ k ih =>
    intro u h c hc
    by_cases h1 : u < 10
    · rw [Lib.decDigits_one h1] at hc
      obtain rfl := List.mem_singleton.1 hc
      rw [dig_toNat u h1]; omega
    · rw [Lib.decDigits, dif_neg h1, List.mem_append] at hc
      rcases hc with hc | hc
      · exact ih (u / 10) (by omega) c hc
      · obtain rfl := List.mem_singleton.1 hc
        rw [dig_toNat (u % 10) (by omega)]; omega
theorem parse_dec : ∀ (k u : Nat), u ≤ k → u < 1000000 → ∀ r, Lib.parseUint10 0 (Lib.decDigits u ++ r) = Lib.parseUint10 u r := by
  intro k
  induction k with
  | zero => intro u h _ r; obtain rfl : u = 0 := by omega
            rw [Lib.decDigits_one (by omega)]
            rfl
  | succ k ih =>
    intro u h hu r
    by_cases h1 : u < 10
    · rw [Lib.decDigits_one h1]
      show Lib.parseUint10 0 (UInt8.ofNat (48 + u) :: r) = _
      rw [Lib.parseUint10, dig_toNat u h1, if_pos (by omega), if_neg (by omega), if_neg (by omega)]
      congr 1; omega
    · rw [Lib.decDigits, dif_neg h1, List.append_assoc, ih (u / 10) (by omega) (by omega)]
      show Lib.parseUint10 (u / 10) (UInt8.ofNat (48 + u % 10) :: r) = _
      rw [Lib.parseUint10, dig_toNat (u % 10) (by omega), if_pos (by omega), if_neg (by omega), if_neg (by omega)]
      congr 1; omega
theorem atoi_dec (u : Nat) (h : u < 1000000) : Lib.atoiAll (Lib.decDigits u) = .ok (u : Int) := by
  have hp : Lib.parseUint10 0 (Lib.decDigits u) = .ok u := by
    have := parse_dec u u (Nat.le_refl _) h []
    rw [List.append_nil] at this
    rw [this]; rfl
  have hd := dec_digit u u (Nat.le_refl _)
  cases hl : Lib.decDigits u with
  | nil => rw [hl] at hp; simp [Lib.parseUint10] at hp
           have h0 : u = 0 := hp.symm
           subst h0
           rw [Lib.decDigits_one (by omega)] at hl; simp at hl
  | cons c r =>
    rw [hl] at hp hd
    have hc := hd c (by simp)
    unfold Lib.atoiAll
    simp only
    rw [if_neg (by omega)]
    have hm : Lib.parseMag (c :: r) = .ok u := by unfold Lib.parseMag; rw [if_neg (by simp)]; exact hp
    rw [hm]
    simp only
    rw [if_neg (by omega), if_neg (by omega), if_neg (by omega)]
theorem index_first : ∀ (p r : List UInt8) (c : UInt8), c ∉ p → Lib.indexByte (p ++ c :: r) c = (p.length : Int)
  | [], r, c, _ => by simp [Lib.indexByte]
  | b :: p, r, c, h => by
    have hb : (b == c) = false := by simpa using fun e => h (by simp [e])
    have ih := index_first p r c (fun hh => h (by simp [hh]))
    simp only [List.cons_append, Lib.indexByte, hb, ih]
    rw [if_neg (by simp)]
    have : ((p.length : Int) == -1) = false := by simp
    rw [this]; simp

set_option maxRecDepth 100000 in
set_option maxHeartbeats 1000000 in
theorem cutd_any (s : ByteArray) (p r : List UInt8) (w : World) (hs : s.data.toList = p ++ 46 :: r) (hp : (46 : UInt8) ∉ p) (hsz : s.size ≤ 1000000) :
    Calls Tryz.prog 25 #[.string s, .string ⟨#[46]⟩] w fun e w' => e = .returned (.tuple #[.string ⟨p.toArray⟩, .string ⟨r.toArray⟩, .bool true]) ∧ Below w.heap.size w w' := by
  have hix := fun W => Tryz.stringslite_Index_one s 46 W
  rw [hs, index_first p r 46 hp] at hix
  have HIX : Hid _ := hix
  have hlen : s.size = p.length + 1 + r.length := by
    have : s.data.toList.length = p.length + (r.length + 1) := by rw [hs]; simp
    have h2 : s.size = s.data.toList.length := by simp
    omega
  have e1 : s.extract 0 p.length = ⟨p.toArray⟩ := by
    apply ByteArray.ext
    apply Array.toList_inj.1
    rw [ByteArray.data_extract, Array.toList_extract, hs]
    simp
  have e2 : s.extract (p.length + 1) s.size = ⟨r.toArray⟩ := by
    apply ByteArray.ext
    apply Array.toList_inj.1
    rw [ByteArray.data_extract, Array.toList_extract, hs, hlen]
    simp
  have HE : Hid (s.extract 0 p.length = ⟨p.toArray⟩ ∧ s.extract (p.length + 1) s.size = ⟨r.toArray⟩) := ⟨e1, e2⟩
  have hpl : p.length < s.size := by omega
  have H51 : Calls Tryz.prog 55 #[.string s, .string ⟨#[46]⟩] w fun e w' => e = .returned (.tuple #[.string (s.extract 0 p.length), .string (s.extract (p.length + 1) s.size), .bool true]) ∧ Below w.heap.size w w' := by
    clear e1 e2 hs hp hix hlen
    generalize p.length = k at *
    have hk1 : ¬ ((k : Int) < 0) := by omega
    go_enter Tryz.func55, Tryz.ntmps55
    go_wp2_with fail
    refine Calls.mono (HIX.out _) ?_
    rintro e w' ⟨rfl, hw'⟩
    subst w'
    go_wp2_with fail
    go_quiet (fail)
    go_wp2
    exact bodyPost_ret (v := .tuple #[.string (s.extract 0 k), .string (s.extract (k + 1) s.size), .bool true]) (by simp [results, Tryz.results55, go_sem]) rfl ⟨rfl, dbeld _ _⟩
  rw [e1, e2] at H51
  have H : Hid _ := H51
  clear e1 e2 hs hp hix HIX hlen HE hpl H51
  go_enter Tryz.func25, Tryz.ntmps25
  go_wp2_with fail
  refine Calls.mono H.out ?_
  rintro e w1 ⟨rfl, b1⟩
  have HB : Hid (Below w.heap.size w w1) := b1
  clear b1
  go_wp2
  exact bodyPost_ret (v := .tuple #[.string ⟨p.toArray⟩, .string ⟨r.toArray⟩, .bool true]) (by simp [results, Tryz.results25, go_sem]) rfl ⟨rfl, HB.out⟩

theorem atoi_any (u : Nat) (w : World) (h : u < 1000000) : Calls Tryz.prog 26 #[.string ⟨(Lib.decDigits u).toArray⟩] w fun e w' => e = .returned (.tuple #[.int .i64 (u : Int), .nilIface]) ∧ Below w.heap.size w w' := by
  have hl : (Lib.decDigits u).length ≤ 20 := by
    rw [Lib.decDigits_length]
    have := nDigits_le 20 u (by have : (10 : Nat) ^ 20 = 100000000000000000000 := by decide
                                omega)
    omega
  refine (Tryz.strconv_Atoi_ok ⟨(Lib.decDigits u).toArray⟩ (by show (Lib.decDigits u).toArray.size ≤ _; simp; omega) u (by simpa using atoi_dec u h) w).mono ?_
  rintro e w' ⟨rfl, hw⟩
  refine ⟨rfl, ?_⟩
  rcases hw with rfl | ⟨t, rfl⟩
  · exact Below.refl _ _
  · exact Lib.bytesWorld_below _ _ _

set_option maxRecDepth 100000 in
set_option maxHeartbeats 2000000 in
theorem read_of (a : ByteArray) (l i n : Nat) (w : World) (hE : GEnv w) (ha : NameOk a) (h1 : l ≤ n) (h2 : n ≤ 8) (h3 : i < 2 ^ l) :
    Calls Tryz.prog 6 #[.string (gname a ⟨l, i⟩), .int .i64 n] w fun e w' => e = .returned (.tuple #[.string a, .agg #[.int .i64 (l : Int), .int .i64 (i : Int)], .nilIface]) ∧ Below w.heap.size w w' := by
  have hgood : (Iv.mk l i).good n := Iv.good_of h1 h2 h3
  have hi256 : i ≤ 256 := Nat.le_trans (Nat.le_of_lt h3) (pow_le_256 (show l ≤ 8 by clear h3; omega))
  clear h3
  have hsz := gname_size a ⟨l, i⟩ (by unfold i64; simp; omega) (by unfold i64; simp; omega)
  have hah := ha.hi
  have HC1 : Hid _ := fun W => cutd_any (gname a ⟨l, i⟩) a.data.toList (Lib.decDigits l ++ 46 :: Lib.decDigits i) W (gname_list a l i) (name_no46 ha) (by omega)
  have hrs : (⟨(Lib.decDigits l ++ 46 :: Lib.decDigits i).toArray⟩ : ByteArray).size ≤ 1000000 := by
    have q1 := nDigits_le 20 l (by have : (10 : Nat) ^ 20 = 100000000000000000000 := by decide
                                   omega)
    have q2 := nDigits_le 20 i (by have : (10 : Nat) ^ 20 = 100000000000000000000 := by decide
                                   omega)
    rw [← Lib.decDigits_length] at q1 q2
    show (Lib.decDigits l ++ 46 :: Lib.decDigits i).toArray.size ≤ _
    simp; omega
  have HC2 : Hid _ := fun W => cutd_any ⟨(Lib.decDigits l ++ 46 :: Lib.decDigits i).toArray⟩ (Lib.decDigits l) (Lib.decDigits i) W (by simp) (dec_no46 l l (Nat.le_refl _)) hrs
  have HA1 : Hid _ := fun W => atoi_any l W (by omega)
  have HA2 : Hid _ := fun W => atoi_any i W (by omega)
  have HN0 := fun W => name_any a W (by unfold maxLen; omega)
  have HN : Hid (∀ W, Calls Tryz.prog 27 #[.string a] W fun e w' => e = .returned (.bool true) ∧ w' = W) := fun W => by
    refine (HN0 W).mono ?_
    rintro e w' ⟨⟨b, rfl, hb⟩, rfl⟩
    have : b = true := hb.2 ha
    subst this
    exact ⟨rfl, rfl⟩
  have HGD : Hid _ := fun W => good_yes ⟨l, i⟩ n W hgood
  have HNM : Hid _ := fun W (hE : GEnv W) => name_of a ⟨l, i⟩ W hE (by omega) (by unfold i64; simp; omega) (by unfold i64; simp; omega)
  have ea : (⟨a.data.toList.toArray⟩ : ByteArray) = a := by cases a; simp
  rw [ea] at HC1
  have HE : Hid (GEnv w) := hE
  clear hgood hE ha HN0 ea hrs hsz hah
  generalize gname a ⟨l, i⟩ = s at *
  generalize (⟨(Lib.decDigits l ++ 46 :: Lib.decDigits i).toArray⟩ : ByteArray) = s2 at *
  generalize (⟨(Lib.decDigits l).toArray⟩ : ByteArray) = sl at *
  generalize (⟨(Lib.decDigits i).toArray⟩ : ByteArray) = si at *
  go_enter Tryz.func6, Tryz.ntmps6
  go_wp2_with fail
  refine Calls.mono (HC1.out _) ?_
  rintro e W1 ⟨rfl, b1⟩
  have z0 := b1.block w.heap.size (by simp)
  rw [heap_alloc_new] at z0
  have B1 : Hid (Below w.heap.size w W1) := (dbel1 _ _).trans (b1.mono (by simp))
  have Z1 : Hid (W1.heap[w.heap.size]? = some (.cells #[.int .i64 0, .int .i64 0] 23 (0, 0)) ∧ w.heap.size < W1.heap.size) := ⟨z0, lt_of_block z0⟩
  clear b1 z0
  go_wp2_with fail
  refine Calls.mono (HC2.out _) ?_
  rintro e W2 ⟨rfl, b2⟩
  have B2 : Hid (Below w.heap.size w W2) := B1.out.trans (b2.mono B1.out.size)
  have Z2 : Hid (W2.heap[w.heap.size]? = some (.cells #[.int .i64 0, .int .i64 0] 23 (0, 0))) := (b2.block _ Z1.out.2).trans Z1.out.1
  clear b2 B1 Z1
  go_wp2_with fail
  refine Calls.mono (HA1.out _) ?_
  rintro e W3 ⟨rfl, b3⟩
  have B3 : Hid (Below w.heap.size w W3) := B2.out.trans (b3.mono B2.out.size)
  have Z3 : Hid (W3.heap[w.heap.size]? = some (.cells #[.int .i64 0, .int .i64 0] 23 (0, 0))) := (b3.block _ (lt_of_block Z2.out)).trans Z2.out
  clear b3 B2 Z2
  go_wp2_with fail
  refine Calls.mono (HA2.out _) ?_
  rintro e W4 ⟨rfl, b4⟩
  have B4 : Hid (Below w.heap.size w W4) := B3.out.trans (b4.mono B3.out.size)
  have Z4 : Hid (W4.heap[w.heap.size]? = some (.cells #[.int .i64 0, .int .i64 0] 23 (0, 0))) := (b4.block _ (lt_of_block Z3.out)).trans Z3.out
  clear b4 B3 Z3
  go_wp2_with fail
  refine Calls.mono (HN.out _) ?_
  rintro e W5 ⟨rfl, hw5⟩
  subst W5
  go_wp2_with fail
  refine Calls.mono (HGD.out _) ?_
  rintro e W6 ⟨rfl, b6⟩
  have k0 := b6.block W4.heap.size (by simp)
  rw [heap_alloc_new] at k0
  have hlt4 := lt_of_block Z4.out
  have z6 : W6.heap[w.heap.size]? = some (.cells #[.int .i64 0, .int .i64 0] 23 (0, 0)) := (b6.block _ (by simp; omega)).trans ((Below.heap_alloc _ _ _ hlt4).trans Z4.out)
  have B6 : Hid (Below w.heap.size w W6) := B4.out.trans (((dbel1 _ _).trans (b6.mono (by simp))).mono B4.out.size)
  have d0 := box_cell (j := 0) k0 (by simp)
  have d1 := box_cell (j := 1) k0 (by simp)
  simp at d0 d1
  have dl := lt_of_block k0
  have K6 : Hid (W6.heap[W4.heap.size]? = some (.cells #[.int .i64 (l : Int), .int .i64 (i : Int)] 23 (0, 0)) ∧ W6.heap[w.heap.size]? = some (.cells #[.int .i64 0, .int .i64 0] 23 (0, 0))) := ⟨k0, z6⟩
  have hE6 : Hid (GEnv W6) := HE.out.below B6.out
  clear b6 k0 z6 B4 Z4
  go_wp2_with fail
  refine Calls.mono (HNM.out _ hE6.out) ?_
  rintro e W7 ⟨rfl, b7⟩
  have B7 : Hid (Below w.heap.size w W7) := B6.out.trans (b7.mono B6.out.size)
  have k7 := (b7.block _ (lt_of_block K6.out.1)).trans K6.out.1
  have z7 := (b7.block _ (lt_of_block K6.out.2)).trans K6.out.2
  have e0 := box_cell (j := 0) k7 (by simp)
  have e1 := box_cell (j := 1) k7 (by simp)
  have f0 := box_cell (j := 0) z7 (by simp)
  have f1 := box_cell (j := 1) z7 (by simp)
  simp at e0 e1 f0 f1
  have ff : ∀ o, W7.frozen? ⟨w.heap.size, o, none⟩ = false := fun o => by simp [World.frozen?, z7]
  have el := lt_of_block k7
  have fl := lt_of_block z7
  clear b7 d0 d1 dl K6 k7 z7 B6 hE6
  go_wp2_with fail
  go_region
  all_goals
    go_wp2_with fail
    refine bodyPost_ret (v := .tuple #[.string a, .agg #[.int .i64 (l : Int), .int .i64 (i : Int)], .nilIface]) (by simp [results, Tryz.results6, go_sem, *]) rfl ⟨rfl, ?_⟩
    exact Below.trans ((B7.out.setCell (by simp) _).setCell (by simp) _) ⟨rfl, rfl, rfl, Nat.le_refl _, fun _ _ => rfl⟩
end Go.Proofs.YtiafamfnbpbfiaaGreatDoor
