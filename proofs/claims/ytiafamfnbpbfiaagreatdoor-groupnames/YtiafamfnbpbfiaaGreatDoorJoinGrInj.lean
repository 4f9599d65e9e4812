/- Unlike groups have unlike names. No program's walk in sight. -/
import Derived.Test.YtiafamfnbpbfiaaGreatDoorGrName
import Derived.Test.YtiafamfnbpbfiaaGreatDoorValMath
import Derived.Test.YtiafamfnbpbfiaaGreatDoorGrSch
import Derived.Test.YtiafamfnbpbfiaaGreatDoorShelfB
import Derived.Lib.AtoiAll
import Derived.Lib.AtoiErrMem
import Derived.Test.YtiafamfnbpbfiaaGreatDoorDyRange
import Derived.Test.YtiafamfnbpbfiaaGreatDoorDyFine
import Derived.Deep.LoopGhost
import Derived.Test.YtiafamfnbpbfiaaGreatDoorRefDig
import Derived.Test.YtiafamfnbpbfiaaGreatDoorRefVal
import Derived.Test.YtiafamfnbpbfiaaGreatDoorGrDoor
import Derived.KernelRfl
import Derived.Test.YtiafamfnbpbfiaaGreatDoorRows
import Derived.Test.YtiafamfnbpbfiaaGreatDoorAid
import Derived.WalkKit
import Derived.ProofKit
import Derived.OpenShut
import Derived.WalkLawsBesides
import Derived.Outline
import Derived.LaidEql
import Derived.Stop.Asserts
import Derived.RowKitTokens
import Derived.Test.YtiafamfnbpbfiaaGreatDoorInRow
import Derived.Test.YtiafamfnbpbfiaaGreatDoorDyMath
import Derived.Test.YtiafamfnbpbfiaaGreatDoorGrAwake
import Derived.Test.YtiafamfnbpbfiaaGreatDoorCut
namespace Go.Proofs.YtiafamfnbpbfiaaGreatDoor
open Go.RowKit
set_option linter.unusedVariables false

theorem split_first {c : UInt8} : ∀ {p q r s : List UInt8}, c ∉ p → c ∉ q → p ++ c :: r = q ++ c :: s → p = q ∧ r = s
  | [], [], r, s, _, _, h => by simpa using h
  | [], b :: q, r, s, _, hq, h => by
    simp at h
    exact absurd h.1 (fun e => hq (by simp [e]))
  | a :: p, [], r, s, hp, _, h => by
    simp at h
    exact absurd h.1 (fun e => hp (by simp [e]))
  | a :: p, b :: q, r, s, hp, hq, h => by
    simp at h
    obtain ⟨rfl, h⟩ := h
    have := split_first (fun hh => hp (by simp [hh])) (fun hh => hq (by simp [hh])) h
    exact ⟨by rw [this.1], this.2⟩
def valD (l : List UInt8) : Nat := l.foldl (fun acc c => 10 * acc + (c.toNat - 48)) 0
theorem dig_toNat (u : Nat) (h : u < 10) : (UInt8.ofNat (48 + u)).toNat = 48 + u := by
  rw [UInt8.toNat_ofNat']; omega
theorem valD_dec : ∀ (k u : Nat), u ≤ k → valD (Lib.decDigits u) = u := by
  intro k
  induction k with
  | zero => intro u h; obtain rfl : u = 0 := by omega
            rw [Lib.decDigits_one (by omega)]; decide
  | succ k ih =>
    intro u h
    by_cases h1 : u < 10
    · rw [Lib.decDigits_one h1]
      simp only [valD, List.foldl_cons, List.foldl_nil, dig_toNat u h1]; omega
    · rw [Lib.decDigits, dif_neg h1]
      have := ih (u / 10) (by omega)
      unfold valD at *
      rw [List.foldl_append, this]
      simp only [List.foldl_cons, List.foldl_nil, dig_toNat (u % 10) (by omega)]
      omega
theorem dec_inj {u v : Nat} (h : Lib.decDigits u = Lib.decDigits v) : u = v := by
  rw [← valD_dec u u (Nat.le_refl _), h, valD_dec v v (Nat.le_refl _)]
theorem dec_no46 : ∀ (k u : Nat), u ≤ k → (46 : UInt8) ∉ Lib.decDigits u := by
  intro k
  induction k with
  | zero => intro u h; obtain rfl : u = 0 := by omega
            rw [Lib.decDigits_one (by omega)]; decide
  | succ k ih =>
    intro u h hm
    have hne : ∀ d, d < 10 → (46 : UInt8) ≠ UInt8.ofNat (48 + d) := fun d hd e => by
      have := congrArg UInt8.toNat e
      rw [dig_toNat d hd] at this
      have h46 : (46 : UInt8).toNat = 46 := rfl
      omega
    by_cases h1 : u < 10
    · rw [Lib.decDigits_one h1] at hm
      exact hne u h1 (by simpa using hm)
    · rw [Lib.decDigits, dif_neg h1, List.mem_append] at hm
      rcases hm with hm | hm
      · exact ih (u / 10) (by omega) hm
      · exact hne (u % 10) (by omega) (by simpa using hm)
theorem dec_list (n : Nat) : (dec n).data.toList = Lib.decDigits n := by
  unfold dec Lib.itoa
  rw [if_neg (by omega), Int.toNat_natCast]
theorem gname_list (a : ByteArray) (l i : Nat) : (gname a ⟨l, i⟩).data.toList = a.data.toList ++ 46 :: (Lib.decDigits l ++ 46 :: Lib.decDigits i) := by
  unfold gname
  simp only [ByteArray.data_append, Array.toList_append, dec_list]
  simp
theorem name_no46 {a : ByteArray} (h : NameOk a) : (46 : UInt8) ∉ a.data.toList := by
  intro hm
  obtain ⟨i, hi, e⟩ := List.mem_iff_getElem.1 hm
  have hi' : i < a.size := by simpa using hi
  have hc := h.ch i hi'
  have e' : a[i] = 46 := by rw [← e]; rfl
  rw [e'] at hc
  rcases hc with hc | ⟨_, hc⟩
  · exact absurd hc (by unfold letterP; decide)
  · exact absurd hc (by unfold digitP; decide)
theorem gname_inj {a b : ByteArray} {l i m j : Nat} (ha : NameOk a) (hb : NameOk b) (h : gname a ⟨l, i⟩ = gname b ⟨m, j⟩) : a = b ∧ l = m ∧ i = j := by
  have h1 : (gname a ⟨l, i⟩).data.toList = (gname b ⟨m, j⟩).data.toList := by rw [h]
  rw [gname_list, gname_list] at h1
  obtain ⟨e1, e2⟩ := split_first (name_no46 ha) (name_no46 hb) h1
  obtain ⟨e3, e4⟩ := split_first (dec_no46 l l (Nat.le_refl _)) (dec_no46 m m (Nat.le_refl _)) e2
  refine ⟨?_, dec_inj e3, dec_inj e4⟩
  cases a; cases b
  simp at e1
  simp [e1]
end Go.Proofs.YtiafamfnbpbfiaaGreatDoor

/- strings.Cut at one byte; group.Read of a group's name. -/
namespace Go.Proofs.YtiafamfnbpbfiaaGreatDoor
open Go.ChangeShapes Go.WideShapes Go.ChangeAt Go.RowKit
set_option linter.unusedVariables false

theorem dec_digit : ∀ (k u : Nat), u ≤ k → ∀ c ∈ Lib.decDigits u, 48 ≤ c.toNat ∧ c.toNat ≤ 57 := by
  intro k
  induction k with
  | zero => intro u h c hc; obtain rfl : u = 0 := by omega
            rw [Lib.decDigits_one (by omega)] at hc
            obtain rfl := List.mem_singleton.1 hc; decide
  | succ k ih =>
    intro u h c hc
    by_cases h1 : u < 10
    · rw [Lib.decDigits_one h1] at hc
      obtain rfl := List.mem_singleton.1 hc
      rw [dig_toNat u h1]; omega
    · rw [Lib.decDigits, dif_neg h1, List.mem_append] at hc
      rcases hc with hc | hc
      · exact ih (u / 10) (by omega) c hc
      · obtain rfl := List.mem_singleton.1 hc
        rw [dig_toNat (u % 10) (by omega)]; omega
theorem parse_dec : ∀ (k u : Nat), u ≤ k → u < 1000000 → ∀ r, Lib.parseUint10 0 (Lib.decDigits u ++ r) = Lib.parseUint10 u r := by
  intro k
  induction k with
  | zero => intro u h _ r; obtain rfl : u = 0 := by omega
            rw [Lib.decDigits_one (by omega)]
            rfl
  | succ k ih =>
    intro u h hu r
    by_cases h1 : u < 10
    · rw [Lib.decDigits_one h1]
      show Lib.parseUint10 0 (UInt8.ofNat (48 + u) :: r) = _
      rw [Lib.parseUint10, dig_toNat u h1, if_pos (by omega), if_neg (by omega), if_neg (by omega)]
      congr 1; omega
    · rw [Lib.decDigits, dif_neg h1, List.append_assoc, ih (u / 10) (by omega) (by omega)]
      show Lib.parseUint10 (u / 10) (UInt8.ofNat (48 + u % 10) :: r) = _
      rw [Lib.parseUint10, dig_toNat (u % 10) (by omega), if_pos (by omega), if_neg (by omega), if_neg (by omega)]
      congr 1; omega
theorem atoi_dec (u : Nat) (h : u < 1000000) : Lib.atoiAll (Lib.decDigits u) = .ok (u : Int) := by
  have hp : Lib.parseUint10 0 (Lib.decDigits u) = .ok u := by
    have := parse_dec u u (Nat.le_refl _) h []
    rw [List.append_nil] at this
    rw [this]; rfl
  have hd := dec_digit u u (Nat.le_refl _)
  cases hl : Lib.decDigits u with
  | nil => rw [hl] at hp; simp [Lib.parseUint10] at hp
           have h0 : u = 0 := hp.symm
           subst h0
           rw [Lib.decDigits_one (by omega)] at hl; simp at hl
  | cons c r =>
    rw [hl] at hp hd
    have hc := hd c (by simp)
    unfold Lib.atoiAll
    simp only
    rw [if_neg (by omega)]
    have hm : Lib.parseMag (c :: r) = .ok u := by unfold Lib.parseMag; rw [if_neg (by simp)]; exact hp
    rw [hm]
    simp only
    rw [if_neg (by omega), if_neg (by omega), if_neg (by omega)]
theorem index_first : ∀ (p r : List UInt8) (c : UInt8), c ∉ p → Lib.indexByte (p ++ c :: r) c = (p.length : Int)
  | [], r, c, _ => by simp [Lib.indexByte]
  | b :: p, r, c, h => by
    have hb : (b == c) = false := by simpa using fun e => h (by simp [e])
    have ih := index_first p r c (fun hh => h (by simp [hh]))
    simp only [List.cons_append, Lib.indexByte, hb, ih]
    rw [if_neg (by simp)]
    have : ((p.length : Int) == -1) = false := by simp
    rw [this]; simp

set_option maxRecDepth 100000 in
set_option maxHeartbeats 1000000 in
theorem cutd_any (s : ByteArray) (p r : List UInt8) (w : World) (hs : s.data.toList = p ++ 46 :: r) (hp : (46 : UInt8) ∉ p) (hsz : s.size ≤ 1000000) :
    Calls Tryz.prog 25 #[.string s, .string ⟨#[46]⟩] w fun e w' => e = .returned (.tuple #[.string ⟨p.toArray⟩, .string ⟨r.toArray⟩, .bool true]) ∧ Below w.heap.size w w' := by
  have hix := fun W => Tryz.stringslite_Index_one s 46 W
  rw [hs, index_first p r 46 hp] at hix
  have HIX : Hid _ := hix
  have hlen : s.size = p.length + 1 + r.length := by
    have : s.data.toList.length = p.length + (r.length + 1) := by rw [hs]; simp
    have h2 : s.size = s.data.toList.length := by simp
    omega
  have e1 : s.extract 0 p.length = ⟨p.toArray⟩ := by
    apply ByteArray.ext
    apply Array.toList_inj.1
    rw [ByteArray.data_extract, Array.toList_extract, hs]
    simp
  have e2 : s.extract (p.length + 1) s.size = ⟨r.toArray⟩ := by
    apply ByteArray.ext
    apply Array.toList_inj.1
    rw [ByteArray.data_extract, Array.toList_extract, hs, hlen]
    simp
  have HE : Hid (s.extract 0 p.length = ⟨p.toArray⟩ ∧ s.extract (p.length + 1) s.size = ⟨r.toArray⟩) := ⟨e1, e2⟩
  have hpl : p.length < s.size := by omega
  have H51 : Calls Tryz.prog 55 #[.string s, .string ⟨#[46]⟩] w fun e w' => e = .returned (.tuple #[.string (s.extract 0 p.length), .string (s.extract (p.length + 1) s.size), .bool true]) ∧ Below w.heap.size w w' := by
    clear e1 e2 hs hp hix hlen
    generalize p.length = k at *
    have hk1 : ¬ ((k : Int) < 0) := by omega
    go_enter Tryz.func55, Tryz.ntmps55
    go_wp2_with fail
    refine Calls.mono (HIX.out _) ?_
    rintro e w' ⟨rfl, hw'⟩
    subst w'
    go_wp2_with fail
    go_quiet (fail)
    go_wp2
    exact bodyPost_ret (v := .tuple #[.string (s.extract 0 k), .string (s.extract (k + 1) s.size), .bool true]) (by simp [results, Tryz.results55, go_sem]) rfl ⟨rfl, dbeld _ _⟩
  rw [e1, e2] at H51
  have H : Hid _ := H51
  clear e1 e2 hs hp hix HIX hlen HE hpl H51
  go_enter Tryz.func25, Tryz.ntmps25
  go_wp2_with fail
  refine Calls.mono H.out ?_
  rintro e w1 ⟨rfl, b1⟩
  have HB : Hid (Below w.heap.size w w1) := b1
  clear b1
  go_wp2
  exact bodyPost_ret (v := .tuple #[.string ⟨p.toArray⟩, .string ⟨r.toArray⟩, .bool true]) (by simp [results, Tryz.results25, go_sem]) rfl ⟨rfl, HB.out⟩

theorem atoi_any (u : Nat) (w : World) (h : u < 1000000) : Calls Tryz.prog 26 #[.string ⟨(Lib.decDigits u).toArray⟩] w fun e w' => e = .returned (.tuple #[.int .i64 (u : Int), .nilIface]) ∧ Below w.heap.size w w' := by
  have hl : (Lib.decDigits u).length ≤ 20 := by
    rw [Lib.decDigits_length]
    have := nDigits_le 20 u (by have : (10 : Nat) ^ 20 = 100000000000000000000 := by decide
                                omega)
    omega
  refine (Tryz.strconv_Atoi_ok ⟨(Lib.decDigits u).toArray⟩ (by show (Lib.decDigits u).toArray.size ≤ _; simp; omega) u (by simpa using atoi_dec u h) w).mono ?_
  rintro e w' ⟨rfl, hw⟩
  refine ⟨rfl, ?_⟩
  rcases hw with rfl | ⟨t, rfl⟩
  · exact Below.refl _ _
  · exact Lib.bytesWorld_below _ _ _

set_option maxRecDepth 100000 in
set_option maxHeartbeats 2000000 in
theorem read_of (a : ByteArray) (l i n : Nat) (w : World) (hE : GEnv w) (ha : NameOk a) (h1 : l ≤ n) (h2 : n ≤ 8) (h3 : i < 2 ^ l) :
    Calls Tryz.prog 6 #[.string (gname a ⟨l, i⟩), .int .i64 n] w fun e w' => e = .returned (.tuple #[.string a, .agg #[.int .i64 (l : Int), .int .i64 (i : Int)], .nilIface]) ∧ Below w.heap.size w w' := by
  have hgood : (Iv.mk l i).good n := Iv.good_of h1 h2 h3
  have hi256 : i ≤ 256 := Nat.le_trans (Nat.le_of_lt h3) (pow_le_256 (show l ≤ 8 by clear h3; omega))
  clear h3
  have hsz := gname_size a ⟨l, i⟩ (by unfold i64; simp; omega) (by unfold i64; simp; omega)
  have hah := ha.hi
  have HC1 : Hid _ := fun W => cutd_any (gname a ⟨l, i⟩) a.data.toList (Lib.decDigits l ++ 46 :: Lib.decDigits i) W (gname_list a l i) (name_no46 ha) (by omega)
  have hrs : (⟨(Lib.decDigits l ++ 46 :: Lib.decDigits i).toArray⟩ : ByteArray).size ≤ 1000000 := by
    have q1 := nDigits_le 20 l (by have : (10 : Nat) ^ 20 = 100000000000000000000 := by decide
                                   omega)
    have q2 := nDigits_le 20 i (by have : (10 : Nat) ^ 20 = 100000000000000000000 := by decide
                                   omega)
    rw [← Lib.decDigits_length] at q1 q2
    show (Lib.decDigits l ++ 46 :: Lib.decDigits i).toArray.size ≤ _
    simp; omega
  have HC2 : Hid _ := fun W => cutd_any ⟨(Lib.decDigits l ++ 46 :: Lib.decDigits i).toArray⟩ (Lib.decDigits l) (Lib.decDigits i) W (by simp) (dec_no46 l l (Nat.le_refl _)) hrs
  have HA1 : Hid _ := fun W => atoi_any l W (by omega)
  have HA2 : Hid _ := fun W => atoi_any i W (by omega)
  have HN0 := fun W => name_any a W (by unfold maxLen; omega)
  have HN : Hid (∀ W, Calls Tryz.prog 27 #[.string a] W fun e w' => e = .returned (.bool true) ∧ w' = W) := fun W => by
    refine (HN0 W).mono ?_
    rintro e w' ⟨⟨b, rfl, hb⟩, rfl⟩
    have : b = true := hb.2 ha
    subst this
    exact ⟨rfl, rfl⟩
  have HGD : Hid _ := fun W => good_yes ⟨l, i⟩ n W hgood
  have HNM : Hid _ := fun W (hE : GEnv W) => name_of a ⟨l, i⟩ W hE (by omega) (by unfold i64; simp; omega) (by unfold i64; simp; omega)
  have ea : (⟨a.data.toList.toArray⟩ : ByteArray) = a := by cases a; simp
  rw [ea] at HC1
  have HE : Hid (GEnv w) := hE
  clear hgood hE ha HN0 ea hrs hsz hah
  generalize gname a ⟨l, i⟩ = s at *
  generalize (⟨(Lib.decDigits l ++ 46 :: Lib.decDigits i).toArray⟩ : ByteArray) = s2 at *
  generalize (⟨(Lib.decDigits l).toArray⟩ : ByteArray) = sl at *
  generalize (⟨(Lib.decDigits i).toArray⟩ : ByteArray) = si at *
  go_enter Tryz.func6, Tryz.ntmps6
  go_wp2_with fail
  refine Calls.mono (HC1.out _) ?_
  rintro e W1 ⟨rfl, b1⟩
  have z0 := b1.block w.heap.size (by simp)
  rw [heap_alloc_new] at z0
  have B1 : Hid (Below w.heap.size w W1) := (dbel1 _ _).trans (b1.mono (by simp))
  have Z1 : Hid (W1.heap[w.heap.size]? = some (.cells #[.int .i64 0, .int .i64 0] 23 (0, 0)) ∧ w.heap.size < W1.heap.size) := ⟨z0, lt_of_block z0⟩
  clear b1 z0
  go_wp2_with fail
  refine Calls.mono (HC2.out _) ?_
  rintro e W2 ⟨rfl, b2⟩
  have B2 : Hid (Below w.heap.size w W2) := B1.out.trans (b2.mono B1.out.size)
  have Z2 : Hid (W2.heap[w.heap.size]? = some (.cells #[.int .i64 0, .int .i64 0] 23 (0, 0))) := (b2.block _ Z1.out.2).trans Z1.out.1
  clear b2 B1 Z1
  go_wp2_with fail
  refine Calls.mono (HA1.out _) ?_
  rintro e W3 ⟨rfl, b3⟩
  have B3 : Hid (Below w.heap.size w W3) := B2.out.trans (b3.mono B2.out.size)
  have Z3 : Hid (W3.heap[w.heap.size]? = some (.cells #[.int .i64 0, .int .i64 0] 23 (0, 0))) := (b3.block _ (lt_of_block Z2.out)).trans Z2.out
  clear b3 B2 Z2
  go_wp2_with fail
  refine Calls.mono (HA2.out _) ?_
  rintro e W4 ⟨rfl, b4⟩
  have B4 : Hid (Below w.heap.size w W4) := B3.out.trans (b4.mono B3.out.size)
  have Z4 : Hid (W4.heap[w.heap.size]? = some (.cells #[.int .i64 0, .int .i64 0] 23 (0, 0))) := (b4.block _ (lt_of_block Z3.out)).trans Z3.out
  clear b4 B3 Z3
  go_wp2_with fail
  refine Calls.mono (HN.out _) ?_
  rintro e W5 ⟨rfl, hw5⟩
  subst W5
  go_wp2_with fail
  refine Calls.mono (HGD.out _) ?_
  rintro e W6 ⟨rfl, b6⟩
  have k0 := b6.block W4.heap.size (by simp)
  rw [heap_alloc_new] at k0
  have hlt4 := lt_of_block Z4.out
  have z6 : W6.heap[w.heap.size]? = some (.cells #[.int .i64 0, .int .i64 0] 23 (0, 0)) := (b6.block _ (by simp; omega)).trans ((Below.heap_alloc _ _ _ hlt4).trans Z4.out)
  have B6 : Hid (Below w.heap.size w W6) := B4.out.trans (((dbel1 _ _).trans (b6.mono (by simp))).mono B4.out.size)
  have d0 := box_cell (j := 0) k0 (by simp)
  have d1 := box_cell (j := 1) k0 (by simp)
  simp at d0 d1
  have dl := lt_of_block k0
  have K6 : Hid (W6.heap[W4.heap.size]? = some (.cells #[.int .i64 (l : Int), .int .i64 (i : Int)] 23 (0, 0)) ∧ W6.heap[w.heap.size]? = some (.cells #[.int .i64 0, .int .i64 0] 23 (0, 0))) := ⟨k0, z6⟩
  have hE6 : Hid (GEnv W6) := HE.out.below B6.out
  clear b6 k0 z6 B4 Z4
  go_wp2_with fail
  refine Calls.mono (HNM.out _ hE6.out) ?_
  rintro e W7 ⟨rfl, b7⟩
  have B7 : Hid (Below w.heap.size w W7) := B6.out.trans (b7.mono B6.out.size)
  have k7 := (b7.block _ (lt_of_block K6.out.1)).trans K6.out.1
  have z7 := (b7.block _ (lt_of_block K6.out.2)).trans K6.out.2
  have e0 := box_cell (j := 0) k7 (by simp)
  have e1 := box_cell (j := 1) k7 (by simp)
  have f0 := box_cell (j := 0) z7 (by simp)
  have f1 := box_cell (j := 1) z7 (by simp)
  simp at e0 e1 f0 f1
  have ff : ∀ o, W7.frozen? ⟨w.heap.size, o, none⟩ = false := fun o => by simp [World.frozen?, z7]
  have el := lt_of_block k7
  have fl := lt_of_block z7
  clear b7 d0 d1 dl K6 k7 z7 B6 hE6
  go_wp2_with fail
  go_region
  all_goals
    go_wp2_with fail
    refine bodyPost_ret (v := .tuple #[.string a, .agg #[.int .i64 (l : Int), .int .i64 (i : Int)], .nilIface]) (by simp [results, Tryz.results6, go_sem, *]) rfl ⟨rfl, ?_⟩
    exact Below.trans ((B7.out.setCell (by simp) _).setCell (by simp) _) ⟨rfl, rfl, rfl, Nat.le_refl _, fun _ _ => rfl⟩
end Go.Proofs.YtiafamfnbpbfiaaGreatDoor

/- wigwagref07.Power, Cell, Range. -/
namespace Go.Proofs.YtiafamfnbpbfiaaGreatDoor
open Go.ChangeShapes Go.WideShapes Go.ChangeAt Go.RowKit
set_option linter.unusedVariables false

theorem pow_le_62 {n m : Nat} (h : n ≤ m) (hm : m ≤ 16) : 2 ^ n ≤ 65536 := Nat.le_trans (Nat.pow_le_pow_right (by omega) (show n ≤ 16 by omega)) (by decide)
set_option maxHeartbeats 1000000 in
theorem power_any (n : Nat) (w : World) (hn : n ≤ 16) :
    Calls Tryz.prog 30 #[.int .i64 n] w fun e w' => e = .returned (.int .i64 ((2 ^ n : Nat) : Int)) ∧ w' = w := by
  go_enter Tryz.func30, Tryz.ntmps30
  go_wp2
  go_loop [3, 4] (fun p i => ∃ k : Nat, k ≤ n ∧ i = .int .i64 k ∧ p = .int .i64 ((2 ^ k : Nat) : Int)) (fun _ i => n - (intOf i).toNat)
  case atStart => exact ⟨0, Nat.zero_le _, rfl, rfl⟩
  case round =>
    obtain ⟨k, hk, rfl, rfl⟩ := hrel
    have hp := pow_le_62 hk hn
    have HP : Hid (2 ^ (k + 1) = 2 ^ k * 2) := (Nat.pow_succ 2 k : 2 ^ (k + 1) = 2 ^ k * 2)
    by_cases hlt : k < n
    · generalize 2 ^ k = P at *
      go_wp2
      go_round
      case rel => exact ⟨k + 1, by omega, by go_num, by rw [HP.out]; refine congrArg (Value.int .i64) ?_; omega⟩
      case measure => simp [intOf]; omega
    · obtain rfl : k = n := by omega
      obtain ⟨P, hP⟩ : ∃ P, P = 2 ^ k := ⟨_, rfl⟩
      rw [← hP]
      have HPP : Hid (P = 2 ^ k) := hP
      clear hP HP hp
      go_wp2
      go_ret
      exact ⟨by show Ending.returned (.int .i64 (P : Int)) = _; rw [HPP.out]; exact ret_i (by simp), rfl⟩

theorem w64_tdiv {X D : Int} (h1 : 0 ≤ X) (h2 : X ≤ 1099511627776) (hD : 0 < D) : wrap64 ((wrap64 X).tdiv D) = X / D := by
  rw [w64_in (n := X) (by omega) (by omega), Int.tdiv_eq_ediv_of_nonneg h1]
  exact w64_in (by have := Int.ediv_nonneg h1 (show 0 ≤ D by omega); omega) (by have := Int.ediv_le_self D h1; omega)

set_option maxRecDepth 100000 in
set_option maxHeartbeats 2000000 in
theorem rcell_any (a : At) (v : Vl) (L : Int) (w : World) (hs : v.str.size ≤ maxLen) :
    Calls Tryz.prog 53 #[.agg #[.string a.name, .int .i64 a.kind, .int .i64 a.mn, .int .i64 a.mx], .agg #[.int .i64 v.num, .string v.str], .int .i64 L] w fun e w' => e = .returned (.int .i64 (cellOf a v L)) ∧ Below w.heap.size w w' := by
  by_cases hL : 0 ≤ L ∧ L ≤ 8
  · have HL : Hid (0 ≤ L ∧ L ≤ 8) := hL
    obtain ⟨n, rfl⟩ : ∃ n : Nat, L = n := ⟨L.toNat, by omega⟩
    have hn : n ≤ 8 := by omega
    clear hL
    obtain ⟨nm, kd, mn, mx⟩ := a
    obtain ⟨nu, st⟩ := v
    by_cases hk : kd = 1
    · subst hk
      by_cases hr : -2147483648 ≤ mn ∧ mx ≤ 2147483648 ∧ mn ≤ nu ∧ nu ≤ mx
      · obtain ⟨h1, h2, h3, h4⟩ := hr
        have HE : Hid (cellOf ⟨nm, 1, mn, mx⟩ ⟨nu, st⟩ n = (nu - mn) * ((2 ^ n : Nat) : Int) / (mx - mn + 1)) := (by rw [cellOf_num HL.out rfl ⟨h1, h2, h3, h4⟩, Int.toNat_natCast, powI] : cellOf ⟨nm, 1, mn, mx⟩ ⟨nu, st⟩ n = (nu - mn) * ((2 ^ n : Nat) : Int) / (mx - mn + 1))
        have hp := prod_bd (x := nu - mn) (n := n) (by omega) (by omega) hn
        rw [powI] at hp
        have HPW : Hid _ := fun W => power_any n W (by omega)
        have h256 := pow_le_256 hn
        generalize 2 ^ n = P at *
        have HW : Hid (wrap64 ((wrap64 ((nu - mn) * (P : Int))).tdiv (mx - mn + 1)) = (nu - mn) * (P : Int) / (mx - mn + 1)) := w64_tdiv hp.1 hp.2 (by omega)
        have hD : ¬ (mx - mn + 1 = 0) := by omega
        clear hp
        go_enter Tryz.func53, Tryz.ntmps53
        go_wp2_with fail
        go_quiet ((go_at_call 30; exact Calls.quiet_of_same (HPW.out _)))
        go_wp2
        go_ret
        refine ⟨?_, (dbel2 w _ _).trans ((dbeld _ _).mono (by simp; omega))⟩
        rw [HE.out]
        exact ret_i HW.out
      · have HE : Hid (cellOf ⟨nm, 1, mn, mx⟩ ⟨nu, st⟩ n = -1) := (cellOf_out HL.out rfl hr : cellOf ⟨nm, 1, mn, mx⟩ ⟨nu, st⟩ n = -1)
        rw [HE.out]
        by_cases h3 : mn ≤ nu
        · by_cases h4 : nu ≤ mx
          · by_cases h1 : -2147483648 ≤ mn
            · have h2 : ¬ mx ≤ 2147483648 := fun h => hr ⟨h1, h, h3, h4⟩
              clear hr
              go_enter Tryz.func53, Tryz.ntmps53
              go_wp2
              go_ret
              exact ⟨rfl, dbel2 _ _ _⟩
            · clear hr
              go_enter Tryz.func53, Tryz.ntmps53
              go_wp2
              go_ret
              exact ⟨rfl, dbel2 _ _ _⟩
          · clear hr
            go_enter Tryz.func53, Tryz.ntmps53
            go_wp2
            go_ret
            exact ⟨rfl, dbel2 _ _ _⟩
        · clear hr
          go_enter Tryz.func53, Tryz.ntmps53
          go_wp2
          go_ret
          exact ⟨rfl, dbel2 _ _ _⟩
    · have HE : Hid (cellOf ⟨nm, kd, mn, mx⟩ ⟨nu, st⟩ n = ((tnum st / 2 ^ (16 - n) : Nat) : Int)) := (by rw [cellOf_text HL.out hk, Int.toNat_natCast] : cellOf ⟨nm, kd, mn, mx⟩ ⟨nu, st⟩ n = ((tnum st / 2 ^ (16 - n) : Nat) : Int))
      have hs' : st.size ≤ 9223372036854775807 := hs
      have HPW := fun W => power_any (16 - n) W (by omega)
      rw [show ((16 - n : Nat) : Int) = 16 - (n : Int) by omega] at HPW
      have HPW : Hid _ := HPW
      have hp1 := pow_pos2 (16 - n)
      have hp2 := pow_le_62 (show 16 - n ≤ 16 by omega) (Nat.le_refl _)
      rw [HE.out]
      by_cases h0 : 0 < st.size
      · by_cases h1 : 1 < st.size
        · have hb0 := st[0].toNat_lt
          have hb1 := st[1].toNat_lt
          have HT : Hid (tnum st = st[0].toNat * 256 + st[1].toNat) := (by unfold tnum; rw [dif_pos h0, dif_pos h1] : tnum st = st[0].toNat * 256 + st[1].toNat)
          rw [HT.out]
          generalize 2 ^ (16 - n) = P at *
          go_enter Tryz.func53, Tryz.ntmps53
          go_wp2_with (go_at_call 30; refine Calls.mono (HPW.out _) ?_; rintro e w' ⟨rfl, rfl⟩)
          go_ret
          refine ⟨ret_i ?_, dbel2 _ _ _⟩
          rw [Int.natCast_ediv]; congr 1; simp [Int.mul_comm]
        · have hb0 := st[0].toNat_lt
          have HT : Hid (tnum st = st[0].toNat * 256) := (by unfold tnum; rw [dif_pos h0, dif_neg h1]; exact Nat.add_zero _ : tnum st = st[0].toNat * 256)
          rw [HT.out]
          generalize 2 ^ (16 - n) = P at *
          go_enter Tryz.func53, Tryz.ntmps53
          go_wp2_with (go_at_call 30; refine Calls.mono (HPW.out _) ?_; rintro e w' ⟨rfl, rfl⟩)
          go_ret
          refine ⟨ret_i ?_, dbel2 _ _ _⟩
          rw [Int.natCast_ediv]; congr 1; simp [Int.mul_comm]
      · have h1 : ¬ 1 < st.size := by omega
        have HT : Hid (tnum st = 0) := (by unfold tnum; rw [dif_neg h0, dif_neg h1] : tnum st = 0)
        rw [HT.out]
        generalize 2 ^ (16 - n) = P at *
        go_enter Tryz.func53, Tryz.ntmps53
        go_wp2_with (go_at_call 30; refine Calls.mono (HPW.out _) ?_; rintro e w' ⟨rfl, rfl⟩)
        go_ret
        refine ⟨ret_i ?_, dbel2 _ _ _⟩
        simp
  · have HE : Hid (cellOf a v L = -1) := (cellOf_bad hL : cellOf a v L = -1)
    rw [HE.out]
    by_cases h0 : L < 0
    · go_enter Tryz.func53, Tryz.ntmps53
      go_wp2
      go_ret
      exact ⟨rfl, dbel2 _ _ _⟩
    · have h1 : 8 < L := by omega
      go_enter Tryz.func53, Tryz.ntmps53
      go_wp2
      go_ret
      exact ⟨rfl, dbel2 _ _ _⟩

set_option maxRecDepth 100000 in
set_option maxHeartbeats 1000000 in
theorem rrange_any (a : At) (p : Pd) (L : Int) (w : World) (hs : p.str.size ≤ 9223372036854775000) :
    Calls Tryz.prog 42 #[.agg #[.string a.name, .int .i64 a.kind, .int .i64 a.mn, .int .i64 a.mx], .agg #[.string p.name, .int .i64 p.op, .int .i64 p.lo, .int .i64 p.hi, .string p.str], .int .i64 L] w
      fun e w' => e = .returned (.tuple #[.int .i64 (rangeOf a p L).1, .int .i64 (rangeOf a p L).2]) ∧ Below w.heap.size w w' := by
  by_cases h1 : p.op = 1
  · obtain ⟨W0, hW0⟩ : ∃ W0, W0 = (w.alloc (.cells #[.string a.name, .int .i64 a.kind, .int .i64 a.mn, .int .i64 a.mx] 89)).alloc (.cells #[.string p.name, .int .i64 p.op, .int .i64 p.lo, .int .i64 p.hi, .string p.str] 90) := ⟨_, rfl⟩
    have hbw : Below w.heap.size w W0 := by rw [hW0]; exact dbel2 _ _ _
    have f0 : W0.cell? ⟨w.heap.size, 0, none⟩ = some (.string a.name) := by rw [hW0]; simp
    have f1 : W0.cell? ⟨w.heap.size, 1, none⟩ = some (.int .i64 a.kind) := by rw [hW0]; simp
    have f2 : W0.cell? ⟨w.heap.size, 2, none⟩ = some (.int .i64 a.mn) := by rw [hW0]; simp
    have f3 : W0.cell? ⟨w.heap.size, 3, none⟩ = some (.int .i64 a.mx) := by rw [hW0]; simp
    have g2 : W0.cell? ⟨w.heap.size + 1, 2, none⟩ = some (.int .i64 p.lo) := by rw [hW0]; simp
    have g3 : W0.cell? ⟨w.heap.size + 1, 3, none⟩ = some (.int .i64 p.hi) := by rw [hW0]; simp
    obtain ⟨ι, F, _, hF0, hFb, hFc⟩ := grown_fam W0
    have F0 : ∀ i, (F i).cell? ⟨w.heap.size, 0, none⟩ = some (.string a.name) := fun i => cell_grown f0 (hFb i)
    have F1 : ∀ i, (F i).cell? ⟨w.heap.size, 1, none⟩ = some (.int .i64 a.kind) := fun i => cell_grown f1 (hFb i)
    have F2 : ∀ i, (F i).cell? ⟨w.heap.size, 2, none⟩ = some (.int .i64 a.mn) := fun i => cell_grown f2 (hFb i)
    have F3 : ∀ i, (F i).cell? ⟨w.heap.size, 3, none⟩ = some (.int .i64 a.mx) := fun i => cell_grown f3 (hFb i)
    have G2 : ∀ i, (F i).cell? ⟨w.heap.size + 1, 2, none⟩ = some (.int .i64 p.lo) := fun i => cell_grown g2 (hFb i)
    have G3 : ∀ i, (F i).cell? ⟨w.heap.size + 1, 3, none⟩ = some (.int .i64 p.hi) := fun i => cell_grown g3 (hFb i)
    have HF : Hid ((∃ i, { W0 with drawn := W0.drawn + 1 } = F i) ∧ (∀ i, Below W0.heap.size W0 (F i)) ∧ (∀ i W, Below W0.heap.size (F i) W → ∃ j, W = F j)) := ⟨hF0, hFb, hFc⟩
    have HB0 : Hid (Below w.heap.size w W0) := hbw
    clear hF0 hFb hFc hbw f0 f1 f2 f3 g2 g3
    rw [rangeOf_1 h1]
    rw [h1] at hW0
    have HC1 : Hid _ := fun W => rcell_any a ⟨p.lo, ByteArray.empty⟩ L W (Nat.zero_le _)
    have HC2 : Hid _ := fun W => rcell_any a ⟨p.hi, ByteArray.empty⟩ L W (Nat.zero_le _)
    generalize cellOf a ⟨p.lo, ByteArray.empty⟩ L = r1 at *
    generalize cellOf a ⟨p.hi, ByteArray.empty⟩ L = r2 at *
    go_enter Tryz.func42, Tryz.ntmps42
    go_wp2_with fail
    rw [← hW0]
    refine wp_region_fam F HF.out.1 (by kernel_rfl) (by kernel_rfl) ?_
    repeat (go_big_quiet_step (first
      | (go_at_call_of 53 (Value.int .i64 p.lo); refine Calls.mono (HC1.out _) ?_; rintro e' w' ⟨hs, hb⟩; exact ⟨hs, HF.out.2.2 _ _ (hb.mono (HF.out.2.1 _).size)⟩)
      | (go_at_call_of 53 (Value.int .i64 p.hi); refine Calls.mono (HC2.out _) ?_; rintro e' w' ⟨hs, hb⟩; exact ⟨hs, HF.out.2.2 _ _ (hb.mono (HF.out.2.1 _).size)⟩)))
    refine wpQuiet_nil ?_
    rintro _ ⟨i, rfl⟩
    have BF := HB0.out.trans ((HF.out.2.1 i).mono HB0.out.size)
    go_wp2
    go_ret2
    exact ⟨rfl, BF⟩
  · have HC1 : Hid _ := fun W => rcell_any a ⟨0, p.str⟩ L W (by unfold maxLen; simp; omega)
    by_cases h2 : p.op = 2
    · rw [rangeOf_2 h2]
      generalize cellOf a ⟨0, p.str⟩ L = r1 at *
      clear h1
      go_enter Tryz.func42, Tryz.ntmps42
      go_wp2_with fail
      refine Calls.mono (HC1.out _) ?_
      rintro e w1 ⟨rfl, hb1⟩
      have c1 := hb1.cell (p := ⟨w.heap.size + 1, 1, none⟩) (by simp)
      simp at c1
      have HB1 : Hid (Below w.heap.size w w1) := (dbel2 w _ _).trans (hb1.mono (by simp; omega))
      clear hb1
      go_wp2
      go_ret2
      exact ⟨rfl, HB1.out⟩
    · rw [rangeOf_3 h1 h2]
      have HC2 : Hid _ := fun W => rcell_any a ⟨0, p.str ++ ⟨#[255, 255]⟩⟩ L W (by
        unfold maxLen
        have : (p.str ++ (⟨#[255, 255]⟩ : ByteArray)).size = p.str.size + 2 := by rw [ByteArray.size_append]; rfl
        simp only; rw [this]; omega)
      generalize cellOf a ⟨0, p.str⟩ L = r1 at *
      generalize cellOf a ⟨0, p.str ++ ⟨#[255, 255]⟩⟩ L = r2 at *
      go_enter Tryz.func42, Tryz.ntmps42
      go_wp2_with fail
      refine Calls.mono (HC1.out _) ?_
      rintro e w1 ⟨rfl, hb1⟩
      have c1 := hb1.cell (p := ⟨w.heap.size + 1, 1, none⟩) (by simp)
      have c4 := hb1.cell (p := ⟨w.heap.size + 1, 4, none⟩) (by simp)
      have k0 := hb1.cell (p := ⟨w.heap.size, 0, none⟩) (by simp; omega)
      have k1 := hb1.cell (p := ⟨w.heap.size, 1, none⟩) (by simp; omega)
      have k2 := hb1.cell (p := ⟨w.heap.size, 2, none⟩) (by simp; omega)
      have k3 := hb1.cell (p := ⟨w.heap.size, 3, none⟩) (by simp; omega)
      simp at c1 c4 k0 k1 k2 k3
      have HB1 : Hid (Below w.heap.size w w1) := (dbel2 w _ _).trans (hb1.mono (by simp; omega))
      have hz1 : w.heap.size + 1 < w1.heap.size := by have := hb1.size; simp at this; omega
      have hz2 : w.heap.size < w1.heap.size := by omega
      clear hb1
      go_wp2_with fail
      refine Calls.mono (HC2.out _) ?_
      rintro e w2 ⟨rfl, hb2⟩
      have HB2 : Hid (Below w.heap.size w w2) := HB1.out.trans (hb2.mono HB1.out.size)
      clear hb2
      go_wp2
      go_ret2
      exact ⟨rfl, HB2.out⟩
end Go.Proofs.YtiafamfnbpbfiaaGreatDoor

/- The document's names of groups: Name, Read by trying. -/
namespace Go.Proofs.YtiafamfnbpbfiaaGreatDoor
open Go.ChangeShapes Go.WideShapes Go.ChangeAt Go.RowKit
set_option linter.unusedVariables false

set_option maxRecDepth 100000 in
set_option maxHeartbeats 1000000 in
theorem rgname_any (a : ByteArray) (x : Iv) (w : World) (ha : a.size ≤ 1000000) (h1 : i64 x.lev) (h2 : i64 x.idx) :
    Calls Tryz.prog 10 #[.string a, .agg #[.int .i64 x.lev, .int .i64 x.idx]] w fun e w' => e = .returned (.string (gname a x)) ∧ Below w.heap.size w w' := by
  obtain ⟨W0, hW0⟩ : ∃ W0, W0 = w.alloc (.cells #[.int .i64 x.lev, .int .i64 x.idx] 29) := ⟨_, rfl⟩
  have hbw : Below w.heap.size w W0 := by rw [hW0]; exact dbel1 _ _
  have f0 : W0.cell? ⟨w.heap.size, 0, none⟩ = some (.int .i64 x.lev) := by rw [hW0]; simp
  have f1 : W0.cell? ⟨w.heap.size, 1, none⟩ = some (.int .i64 x.idx) := by rw [hW0]; simp
  obtain ⟨ι, F, _, hF0, hFb, hFc⟩ := grown_fam W0
  have F0 : ∀ i, (F i).cell? ⟨w.heap.size, 0, none⟩ = some (.int .i64 x.lev) := fun i => cell_grown f0 (hFb i)
  have F1 : ∀ i, (F i).cell? ⟨w.heap.size, 1, none⟩ = some (.int .i64 x.idx) := fun i => cell_grown f1 (hFb i)
  have HF : Hid ((∃ i, { W0 with drawn := W0.drawn + 1 } = F i) ∧ (∀ i, Below W0.heap.size W0 (F i)) ∧ (∀ i W, Below W0.heap.size (F i) W → ∃ j, W = F j)) := ⟨hF0, hFb, hFc⟩
  have HB0 : Hid (Below w.heap.size w W0) := hbw
  have HC1 : Hid (∀ i, Calls Tryz.prog 32 #[.int .i64 x.lev] (F i) fun e w' => e = .returned (.string (dec x.lev)) ∧ Below (F i).heap.size (F i) w') := fun i => digits_any x.lev _ h1
  have HC2 : Hid (∀ i, Calls Tryz.prog 32 #[.int .i64 x.idx] (F i) fun e w' => e = .returned (.string (dec x.idx)) ∧ Below (F i).heap.size (F i) w') := fun i => digits_any x.idx _ h2
  have s1 := dec_size x.lev h1
  have s2 := dec_size x.idx h2
  have HG : Hid (gname a x = a ++ ⟨#[46]⟩ ++ dec x.lev ++ ⟨#[46]⟩ ++ dec x.idx) := (rfl : gname a x = a ++ ⟨#[46]⟩ ++ dec x.lev ++ ⟨#[46]⟩ ++ dec x.idx)
  clear hF0 hFb hFc hbw f0 f1
  generalize dec x.lev = d1 at *
  generalize dec x.idx = d2 at *
  go_enter Tryz.func10, Tryz.ntmps10
  go_wp2_with fail
  rw [← hW0]
  refine wp_region_fam F HF.out.1 (by kernel_rfl) (by kernel_rfl) ?_
  repeat (go_big_quiet_step (first
    | (go_at_call_of 32 (Value.int .i64 x.lev); refine Calls.mono (HC1.out _) ?_; rintro e' w' ⟨hs, hb⟩; exact ⟨hs, HF.out.2.2 _ _ (hb.mono (HF.out.2.1 _).size)⟩)
    | (go_at_call_of 32 (Value.int .i64 x.idx); refine Calls.mono (HC2.out _) ?_; rintro e' w' ⟨hs, hb⟩; exact ⟨hs, HF.out.2.2 _ _ (hb.mono (HF.out.2.1 _).size)⟩)))
  refine wpQuiet_nil ?_
  rintro _ ⟨i, rfl⟩
  have BF := HB0.out.trans ((HF.out.2.1 i).mono HB0.out.size)
  go_wp2
  go_ret
  exact ⟨by rw [HG.out]; rfl, BF⟩
/-- A text that is a group's name. -/
def GName (s : ByteArray) (L : Int) : Prop := ∃ (a : ByteArray) (l i n : Nat), L = n ∧ NameOk a ∧ l ≤ n ∧ n ≤ 8 ∧ i < 2 ^ l ∧ gname a ⟨l, i⟩ = s
theorem first_of {s a : ByteArray} {k l i : Nat} (ha : NameOk a) (h : gname a ⟨l, i⟩ = s) (hk : ∀ j (hj : j < s.size), j < k → s[j] ≠ 46) (hks : k ≤ s.size) (hend : ∀ hj : k < s.size, s[k] = 46) : s.extract 0 k = a := by
  have hl := gname_list a l i
  rw [h] at hl
  have hsz : s.size = a.size + 1 + (Lib.decDigits l ++ 46 :: Lib.decDigits i).length := by
    have : s.data.toList.length = a.data.toList.length + ((Lib.decDigits l ++ 46 :: Lib.decDigits i).length + 1) := by rw [hl]; simp
    have h2 : s.size = s.data.toList.length := by simp
    have h3 : a.size = a.data.toList.length := by simp
    omega
  have hget : ∀ j (hj : j < s.size), s[j] = s.data.toList[j]'(by simpa using hj) := fun j hj => rfl
  have hat : ∀ hj : a.size < s.size, s[a.size] = 46 := fun hj => by
    rw [hget]
    have e : s.data.toList[a.size]? = some 46 := by rw [hl, List.getElem?_append_right (by simp)]; simp
    rw [List.getElem?_eq_getElem (by simpa using hj)] at e
    exact Option.some.inj e
  have hka : k = a.size := by
    rcases Nat.lt_trichotomy k a.size with q | q | q
    · exfalso
      have hj : k < s.size := by omega
      have e1 := hend hj
      rw [hget] at e1
      have e2 : s.data.toList[k]? = a.data.toList[k]? := by rw [hl, List.getElem?_append_left (by simpa using q)]
      rw [List.getElem?_eq_getElem (by simpa using hj), List.getElem?_eq_getElem (by simpa using q), e1] at e2
      exact name_no46 ha ((Option.some.inj e2) ▸ List.getElem_mem _)
    · exact q
    · exact absurd (hat (by omega)) (hk a.size (by omega) q)
  subst hka
  apply ByteArray.ext
  apply Array.toList_inj.1
  rw [ByteArray.data_extract, Array.toList_extract, hl]
  simp
def RdRef (e : Ending) (s : ByteArray) (L : Int) : Prop :=
  (∃ (a : ByteArray) (l i n : Nat), L = n ∧ NameOk a ∧ l ≤ n ∧ n ≤ 8 ∧ i < 2 ^ l ∧ gname a ⟨l, i⟩ = s ∧ e = .returned (.tuple #[.string a, .agg #[.int .i64 l, .int .i64 i], .bool true])) ∨
  (¬ GName s L ∧ e = .returned (.tuple #[.string ⟨#[]⟩, .agg #[.int .i64 0, .int .i64 0], .bool false]))

set_option maxRecDepth 100000 in
set_option maxHeartbeats 4000000 in
theorem rread_any (s : ByteArray) (L : Int) (w : World) (hs : s.size ≤ 1000) :
    Calls Tryz.prog 7 #[.string s, .int .i64 L] w fun e w' => RdRef e s L ∧ Below w.heap.size w w' := by
  obtain ⟨W0, hW0⟩ : ∃ W0, W0 = w.alloc (.cells #[.int .i64 0, .int .i64 0] 29) := ⟨_, rfl⟩
  have HZ : Hid (W0.heap[w.heap.size]? = some (.cells #[.int .i64 0, .int .i64 0] 29 (0, 0)) ∧ Below w.heap.size w W0) := by
    rw [hW0]; exact ⟨heap_alloc_new w _, dbel1 _ _⟩
  go_enter Tryz.func7, Tryz.ntmps7
  go_wp2_with fail
  rw [← hW0]
  clear hW0
  go_loopg [7] s.size (fun kx s7 wr => ∃ k : Nat, s7 = .int .i64 k ∧ k ≤ s.size ∧ kx = s.size - k ∧ W0 = wr ∧ Hid (∀ j (hj : j < s.size), j < k → s[j] ≠ 46))
  case atStart => exact ⟨0, rfl, Nat.zero_le _, rfl, rfl, (fun j _ h => absurd h (Nat.not_lt_zero _) : ∀ j (hj : j < s.size), j < 0 → s[j] ≠ 46)⟩
  case round =>
    obtain ⟨k, rfl, hk, rfl, rfl, HK⟩ := hrel
    by_cases hgo : ∃ hj : k < s.size, s[k] ≠ 46
    · obtain ⟨hj, hne⟩ := hgo
      have HK2 : Hid (∀ j (hj : j < s.size), j < k + 1 → s[j] ≠ 46) := fun j hj' hjk => by
        by_cases e : j = k
        · subst e; exact hne
        · exact HK.out j hj' (by omega)
      have hne2 : ¬ (s[k].toNat : Int) = 46 := fun e => hne (UInt8.toNat_inj.1 (by have : (46 : UInt8).toNat = 46 := rfl
                                                                                   omega))
      have hne3 : ((s[k].toNat : Int) == 46) = false := by simpa using hne2
      clear hne
      go_wp2
      go_roundg (s.size - (k + 1))
      case measure => omega
      case rel => exact ⟨k + 1, by go_num, by omega, rfl, rfl, HK2⟩
    · have HEND : Hid (∀ hj : k < s.size, s[k] = 46) := fun hj => Classical.byContradiction fun h => hgo ⟨hj, h⟩
      have HNX : Hid (∀ a l i, NameOk a → gname a ⟨(l : Nat), (i : Nat)⟩ = s → s.extract 0 k = a) := fun a l i ha h => first_of ha h HK.out hk HEND.out
      have hend2 : (¬ k < s.size) ∨ (∃ hj : k < s.size, (s[k].toNat : Int) = 46) := by
        by_cases hj : k < s.size
        · refine Or.inr ⟨hj, ?_⟩
          have := HEND.out hj
          rw [this]; rfl
        · exact Or.inl hj
      have hasz : (s.extract 0 k).size ≤ 1000 := by simp; omega
      have HRN : Hid _ := fun W => rname_any (s.extract 0 k) W (by unfold maxLen; omega)
      have hL8 : Hid (¬ (0 ≤ L ∧ L ≤ 8) → ¬ GName s L) := fun h ⟨a, l, i, n, h1, _, _, h4, _, _⟩ => h (by omega)
      clear HK HEND hgo
      rcases hend2 with hj | ⟨hj, he⟩
      all_goals
        go_wp2_with fail
        refine Calls.mono (HRN.out _) ?_
        rintro e W1 ⟨⟨b, rfl, hb⟩, hw1⟩
        subst W1
        cases b with
        | false =>
          have HNO : Hid (¬ GName s L) := fun ⟨a, l, i, n, h1, h2, _, _, _, h6⟩ => by
            have e := HNX.out a l i h2 h6
            rw [e] at hb
            exact absurd (hb.2 h2) (by simp)
          have z7 := HZ.out.1
          have f0 := box_cell (j := 0) z7 (by simp)
          have f1 := box_cell (j := 1) z7 (by simp)
          have ff : ∀ o, W0.frozen? ⟨w.heap.size, o, none⟩ = false := fun o => by simp [World.frozen?, z7]
          have fl := lt_of_block z7
          simp at f0 f1
          clear z7 hb HNX
          go_wp2_with fail
          refine bodyPost_ret (v := .tuple #[.string ⟨#[]⟩, .agg #[.int .i64 0, .int .i64 0], .bool false]) (by simp [results, Tryz.results7, go_sem, *]) rfl ⟨Or.inr ⟨HNO.out, rfl⟩, ?_⟩
          exact (HZ.out.2.setCell (by simp) _).setCell (by simp) _
        | true =>
          have HNM : Hid (NameOk (s.extract 0 k)) := hb.1 rfl
          clear hb HRN
          by_cases hLv : 0 ≤ L ∧ L ≤ 8
          · obtain ⟨n, rfl⟩ : ∃ n : Nat, L = n := ⟨L.toNat, by omega⟩
            have hn : n ≤ 8 := by omega
            clear hLv hL8
            have HPW : Hid (∀ l : Nat, l ≤ 8 → ∀ W, Calls Tryz.prog 30 #[.int .i64 l] W fun e w' => e = .returned (.int .i64 ((2 ^ l : Nat) : Int)) ∧ w' = W) := fun l hl W => power_any l W (by omega)
            have HGN : Hid (∀ (l i : Nat), l ≤ 8 → i ≤ 256 → ∀ W, Calls Tryz.prog 10 #[.string (s.extract 0 k), .agg #[.int .i64 l, .int .i64 i]] W fun e w' => e = .returned (.string (gname (s.extract 0 k) ⟨l, i⟩)) ∧ Below W.heap.size W w') := fun l i hl hi W => rgname_any (s.extract 0 k) ⟨l, i⟩ W (by omega) (by unfold i64; simp; omega) (by unfold i64; simp; omega)
            obtain ⟨a, hax⟩ : ∃ a, s.extract 0 k = a := ⟨_, rfl⟩
            rw [hax] at HNX hasz HNM HGN
            go_wp2_with fail
            go_loopg [8] (n + 1) (fun kx s8 wr => ∃ l : Nat, s8 = .int .i64 l ∧ l ≤ n + 1 ∧ kx = n + 1 - l ∧ Hid (Below W0.heap.size W0 wr) ∧ Hid (∀ l' i', l' < l → i' < 2 ^ l' → gname a ⟨(l' : Nat), (i' : Nat)⟩ ≠ s))
            case atStart => exact ⟨0, rfl, Nat.zero_le _, rfl, (Below.refl _ _ : Below W0.heap.size W0 W0), (fun l' _ h => absurd h (Nat.not_lt_zero _) : ∀ l' i', l' < 0 → i' < 2 ^ l' → gname a ⟨(l' : Nat), (i' : Nat)⟩ ≠ s)⟩
            case round =>
              obtain ⟨l, rfl, hl, rfl, HB, HNE⟩ := hrel
              by_cases hln : l ≤ n
              · have hp256 := pow_le_256 (show l ≤ 8 by omega)
                have HPl : Hid _ := HPW.out l (by omega)
                obtain ⟨P, hP⟩ : ∃ P : Nat, P = 2 ^ l := ⟨_, rfl⟩
                have HP : Hid (P = 2 ^ l) := hP
                rw [← hP] at hp256 HPl
                clear hP
                go_wp2_with fail
                rename World => wq
                go_loopg [9] P (fun kx s9 wr => ∃ i : Nat, s9 = .int .i64 i ∧ i ≤ P ∧ kx = P - i ∧ Hid (Below W0.heap.size W0 wr) ∧ Hid (∀ i', i' < i → gname a ⟨l, (i' : Nat)⟩ ≠ s))
                case atStart => exact ⟨0, rfl, Nat.zero_le _, rfl, HB, (fun i' h => absurd h (Nat.not_lt_zero _) : ∀ i', i' < 0 → gname a ⟨l, (i' : Nat)⟩ ≠ s)⟩
                case round =>
                  obtain ⟨i, rfl, hi, rfl, HB2, HNI⟩ := hrel
                  by_cases hip : i < P
                  · have HGl : Hid _ := HGN.out l i (by omega) (by omega)
                    go_wp2_with fail
                    refine Calls.mono (HPl.out _) ?_
                    rintro e W5 ⟨rfl, hw5⟩
                    subst W5
                    go_wp2_with fail
                    refine Calls.mono (HGl.out _) ?_
                    rintro e W6 ⟨rfl, b6⟩
                    have HB6 : Hid (Below W0.heap.size W0 W6) := HB2.out.trans (b6.mono HB2.out.size)
                    clear b6
                    by_cases hy : gname a ⟨l, i⟩ = s
                    · have HY : Hid (gname a ⟨l, i⟩ = s) := hy
                      rw [hy]
                      have z7 := (HB6.out.block w.heap.size (lt_of_block HZ.out.1)).trans HZ.out.1
                      have f0 := box_cell (j := 0) z7 (by simp)
                      have f1 := box_cell (j := 1) z7 (by simp)
                      have ff : ∀ o, W6.frozen? ⟨w.heap.size, o, none⟩ = false := fun o => by simp [World.frozen?, z7]
                      have fl := lt_of_block z7
                      simp at f0 f1
                      clear z7 hy
                      go_wp2_with fail
                      refine bodyPost_ret (v := .tuple #[.string a, .agg #[.int .i64 l, .int .i64 i], .bool true]) (by simp [results, Tryz.results7, go_sem, *]) rfl ⟨Or.inl ⟨a, l, i, n, rfl, HNM.out, hln, hn, by rw [← HP.out]; exact hip, HY.out, rfl⟩, ?_⟩
                      exact ((HZ.out.2.trans (HB6.out.mono HZ.out.2.size)).setCell (by simp) _).setCell (by simp) _
                    · have HNI2 : Hid (∀ i', i' < i + 1 → gname a ⟨l, (i' : Nat)⟩ ≠ s) := fun i' h' => by
                        by_cases e : i' = i
                        · subst e; exact hy
                        · exact HNI.out i' (by omega)
                      generalize gname a ⟨l, i⟩ = t at hy ⊢
                      have hx1 : t.toList ≠ s.toList := fun h => hy (toList_inj.1 h)
                      have hx2 : (t.toList == s.toList) = false := by simpa using hx1
                      clear hy
                      go_wp2_with fail
                      go_roundg (P - (i + 1))
                      case measure => omega
                      case rel => exact ⟨i + 1, by go_num, by omega, rfl, HB6, HNI2⟩
                  · have HNE2 : Hid (∀ l' i', l' < l + 1 → i' < 2 ^ l' → gname a ⟨(l' : Nat), (i' : Nat)⟩ ≠ s) := fun l' i' h' hi' => by
                      by_cases e : l' = l
                      · subst e
                        exact HNI.out i' (by have := HP.out; omega)
                      · exact HNE.out l' i' (by omega) hi'
                    go_wp2_with fail
                    refine Calls.mono (HPl.out _) ?_
                    rintro e W5 ⟨rfl, hw5⟩
                    subst W5
                    go_wp2_with fail
                    go_roundg (n + 1 - (l + 1))
                    case measure => omega
                    case rel => exact ⟨l + 1, by go_num, by omega, rfl, HB2, HNE2⟩
              · have HNO : Hid (¬ GName s n) := fun ⟨a', l', i', n', h1, h2, h3, h4, h5, h6⟩ => by
                  have e := HNX.out a' l' i' h2 h6
                  subst e
                  obtain rfl : n = n' := by omega
                  exact HNE.out l' i' (by omega) h5 h6
                have z7 := (HB.out.block w.heap.size (lt_of_block HZ.out.1)).trans HZ.out.1
                have f0 := box_cell (j := 0) z7 (by simp)
                have f1 := box_cell (j := 1) z7 (by simp)
                have ff : ∀ o, wr.frozen? ⟨w.heap.size, o, none⟩ = false := fun o => by simp [World.frozen?, z7]
                have fl := lt_of_block z7
                simp at f0 f1
                clear z7
                go_wp2_with fail
                refine bodyPost_ret (v := .tuple #[.string ⟨#[]⟩, .agg #[.int .i64 0, .int .i64 0], .bool false]) (by simp [results, Tryz.results7, go_sem, *]) rfl ⟨Or.inr ⟨HNO.out, rfl⟩, ?_⟩
                exact ((HZ.out.2.trans (HB.out.mono HZ.out.2.size)).setCell (by simp) _).setCell (by simp) _
          · have HNO : Hid (¬ GName s L) := hL8.out hLv
            have z7 := HZ.out.1
            have f0 := box_cell (j := 0) z7 (by simp)
            have f1 := box_cell (j := 1) z7 (by simp)
            have ff : ∀ o, W0.frozen? ⟨w.heap.size, o, none⟩ = false := fun o => by simp [World.frozen?, z7]
            have fl := lt_of_block z7
            simp at f0 f1
            clear z7 HNX hL8
            rcases (show L < 0 ∨ (¬ L < 0 ∧ 8 < L) by omega) with h8 | ⟨h8, h9⟩
            all_goals
              clear hLv
              go_wp2_with fail
              refine bodyPost_ret (v := .tuple #[.string ⟨#[]⟩, .agg #[.int .i64 0, .int .i64 0], .bool false]) (by simp [results, Tryz.results7, go_sem, *]) rfl ⟨Or.inr ⟨HNO.out, rfl⟩, ?_⟩
              exact (HZ.out.2.setCell (by simp) _).setCell (by simp) _
end Go.Proofs.YtiafamfnbpbfiaaGreatDoor

/- What five tied variables give a walk: strconv's table, and its two errors besides. -/
namespace Go.Proofs.YtiafamfnbpbfiaaGreatDoor
open Go.ChangeShapes Go.WideShapes Go.ChangeAt Go.RowKit Go.Extern.Stop Go.Stop Go.Extern
set_option linter.unusedVariables false

abbrev seatLaid5 : List (String × DataW Unit) := [("math/bits.deBruijn32tab", Rows.laid_math_bits_deBruijn32tab), ("math/bits.deBruijn64tab", Rows.laid_math_bits_deBruijn64tab), ("internal/strconv.uint64pow10", Rows.laid_internal_strconv_uint64pow10), ("strconv.ErrRange", Rows.laid_strconv_ErrRange), ("strconv.ErrSyntax", Rows.laid_strconv_ErrSyntax)]
set_option maxRecDepth 100000 in
theorem genv_of_laid5 {W : World} (h : laidMetH Tryz.prog seatLaid5 W) : GEnv W := by
  obtain ⟨h1, h2⟩ := laidMetH_iff.1 h
  have f1 := h1.filter (fun x => x.1 == "internal/strconv.uint64pow10")
  have g1 : laidMet Tryz.prog [("internal/strconv.uint64pow10", Lib.tabData .u64 Lib.pow10Tab)] W := f1
  refine ⟨Lib.tabIs_of_head (P := Tryz.prog) (g := 4) (by kernel_rfl) (t := 197) (by kernel_rfl) Tryz.underlying197 Tryz.underlying35 (by kernel_rfl) (by kernel_rfl) g1, ?_⟩
  obtain ⟨ps, ⟨g', t', cs, fuel, p, q, hg', ht', hvar, hd, _, _⟩, _⟩ := g1
  have hgg : Tryz.prog.globalNamed "internal/strconv.uint64pow10" = some 4 := by kernel_rfl
  unfold World.var? at hvar
  rw [hgg] at hvar
  simp only [Option.bind_some] at hvar
  rcases Nat.lt_or_ge 4 W.heap.size with q | q
  · exact q
  · rw [Array.getElem?_eq_none q] at hvar; simp at hvar
/-- A world in which the variables hold what they should: that there is one. -/
def witHeap5 (h : Array Obj) : Array Obj :=
  ((setB (setB (setB (setB (setB h 2 #[.iface 193 (.pointer (some ⟨h.size, 0, none⟩))]) 3 #[.iface 193 (.pointer (some ⟨h.size + 1, 0, none⟩))])
    4 (litCells Rows.laid_internal_strconv_uint64pow10)) 5 (litCells Rows.laid_math_bits_deBruijn32tab)) 6 (litCells Rows.laid_math_bits_deBruijn64tab)).push
      (.cells #[.string ⟨#[105, 110, 118, 97, 108, 105, 100, 32, 115, 121, 110, 116, 97, 120]⟩] 195)).push (.cells #[.string ⟨#[118, 97, 108, 117, 101, 32, 111, 117, 116, 32, 111, 102, 32, 114, 97, 110, 103, 101]⟩] 195)
theorem wit_laid5 (os : Os) : laidMetH Tryz.prog seatLaid5 { World.holding Tryz.prog os ⟨#[], #[], []⟩ with heap := witHeap5 (World.holding Tryz.prog os ⟨#[], #[], []⟩).heap } :=
  laidMetH_of_parts (laidMet_of_run' 8 (by kernel_rfl) (by kernel_rfl)) (by kernel_rfl)
end Go.Proofs.YtiafamfnbpbfiaaGreatDoor

/- group.Read of any text; what five tied variables give it. -/
namespace Go.Proofs.YtiafamfnbpbfiaaGreatDoor
open Go.ChangeShapes Go.WideShapes Go.ChangeAt Go.RowKit Go.Extern.Stop Go.Stop Go.Extern
set_option linter.unusedVariables false

/-- strconv's table, and what its two errors hold. -/
structure GEnvS (w : World) : Prop where
  env : GEnv w
  syn : ∃ t v, w.cell? ⟨2, 0, none⟩ = some (.iface t v)
  rng : ∃ t v, w.cell? ⟨3, 0, none⟩ = some (.iface t v)
theorem GEnvS.below {w w' : World} (h : GEnvS w) (hb : Below w.heap.size w w') : GEnvS w' := by
  obtain ⟨t, v, h1⟩ := h.syn
  obtain ⟨t2, v2, h2⟩ := h.rng
  exact ⟨h.env.below hb, ⟨t, v, cell_grown h1 hb⟩, ⟨t2, v2, cell_grown h2 hb⟩⟩
set_option maxRecDepth 100000 in
/-- A variable of type error that holds a fault of the library's: its cell. -/
theorem iface_of_laidG {W : World} {n : String} {g : Nat} {nm : String} {d : DataW Unit} (hg : Tryz.prog.globalNamed n = some g) (hty : (Tryz.prog.globals[g]?).map (·.type) = some 26) (h : laidMet Tryz.prog [(n, .iface nm d)] W) :
    ∃ t v, W.cell? ⟨g, 0, none⟩ = some (.iface t v) := by
  obtain ⟨ps, ⟨g', t', cs, fuel, p, q, hg', ht', hvar, hd, _, _⟩, _⟩ := h
  obtain rfl := Option.some.inj (hg.symm.trans hg')
  obtain rfl := Option.some.inj (hty.symm.trans ht')
  have hc := World.var?_cell hg hvar 0
  have hu := Tryz.underlying26
  obtain ⟨l⟩ := cs
  cases fuel with
  | zero => unfold DataW.trod at hd; cases hd
  | succ fuel =>
    unfold DataW.trod at hd
    rw [hu] at hd
    match l, hd, hc with
    | [.iface t v], _, hc => exact ⟨t, v, by simpa using hc⟩
    | [.nilIface], hd, _ => simp at hd
set_option maxRecDepth 100000 in
theorem genvs_of_laid5 {W : World} (h : laidMetH Tryz.prog seatLaid5 W) : GEnvS W := by
  obtain ⟨h1, h2⟩ := laidMetH_iff.1 h
  have f2 := h1.filter (fun x => x.1 == "strconv.ErrSyntax")
  have f3 := h1.filter (fun x => x.1 == "strconv.ErrRange")
  have g2 : laidMet Tryz.prog [("strconv.ErrSyntax", Rows.laid_strconv_ErrSyntax)] W := f2
  have g3 : laidMet Tryz.prog [("strconv.ErrRange", Rows.laid_strconv_ErrRange)] W := f3
  exact ⟨genv_of_laid5 h, iface_of_laidG (by kernel_rfl) (by kernel_rfl) g2, iface_of_laidG (by kernel_rfl) (by kernel_rfl) g3⟩

theorem index_none : ∀ (l : List UInt8) (c : UInt8), c ∉ l → Lib.indexByte l c = -1
  | [], _, _ => rfl
  | b :: l, c, h => by
    have hb : (b == c) = false := by simpa using fun e => h (by simp [e])
    have ih := index_none l c (fun hh => h (by simp [hh]))
    simp only [Lib.indexByte, hb, ih]
    rfl
set_option maxRecDepth 100000 in
set_option maxHeartbeats 1000000 in
theorem cutd_no (s : ByteArray) (w : World) (hs : (46 : UInt8) ∉ s.data.toList) (hsz : s.size ≤ 1000000) :
    Calls Tryz.prog 25 #[.string s, .string ⟨#[46]⟩] w fun e w' => e = .returned (.tuple #[.string s, .string ⟨#[]⟩, .bool false]) ∧ Below w.heap.size w w' := by
  have hix := fun W => Tryz.stringslite_Index_one s 46 W
  rw [index_none _ _ hs] at hix
  have HIX : Hid _ := hix
  have H51 : Calls Tryz.prog 55 #[.string s, .string ⟨#[46]⟩] w fun e w' => e = .returned (.tuple #[.string s, .string ⟨#[]⟩, .bool false]) ∧ Below w.heap.size w w' := by
    clear hix hs
    go_enter Tryz.func55, Tryz.ntmps55
    go_wp2_with fail
    refine Calls.mono (HIX.out _) ?_
    rintro e w' ⟨rfl, hw'⟩
    subst w'
    go_wp2
    exact bodyPost_ret (v := .tuple #[.string s, .string ⟨#[]⟩, .bool false]) (by simp [results, Tryz.results55, go_sem]) rfl ⟨rfl, Below.refl _ _⟩
  have H : Hid _ := H51
  clear hs hix HIX H51
  go_enter Tryz.func25, Tryz.ntmps25
  go_wp2_with fail
  refine Calls.mono H.out ?_
  rintro e w1 ⟨rfl, b1⟩
  have HB : Hid (Below w.heap.size w w1) := b1
  clear b1
  go_wp2
  exact bodyPost_ret (v := .tuple #[.string s, .string ⟨#[]⟩, .bool false]) (by simp [results, Tryz.results25, go_sem]) rfl ⟨rfl, HB.out⟩
theorem cutd_some (s : ByteArray) (w : World) (hs : s.size ≤ 1000) :
    Calls Tryz.prog 25 #[.string s, .string ⟨#[46]⟩] w fun e w' => ∃ (a b : ByteArray) (f : Bool), e = .returned (.tuple #[.string a, .string b, .bool f]) ∧ a.size ≤ 1000 ∧ b.size ≤ 1000 ∧ Below w.heap.size w w' := by
  by_cases h : (46 : UInt8) ∈ s.data.toList
  · obtain ⟨p, r, hl, hp⟩ := List.eq_append_cons_of_mem h
    have hlen : s.size = p.length + 1 + r.length := by
      have : s.data.toList.length = p.length + (r.length + 1) := by rw [hl]; simp
      have h2 : s.size = s.data.toList.length := by simp
      omega
    refine (cutd_any s p r w hl hp (by omega)).mono ?_
    rintro e w' ⟨rfl, hb⟩
    refine ⟨_, _, _, rfl, ?_, ?_, hb⟩
    · show p.toArray.size ≤ _; simp; omega
    · show r.toArray.size ≤ _; simp; omega
  · refine (cutd_no s w h (by omega)).mono ?_
    rintro e w' ⟨rfl, hb⟩
    exact ⟨_, _, _, rfl, hs, by show (#[] : Array UInt8).size ≤ _; simp, hb⟩
theorem atoi_bdG {l : List UInt8} {v : Int} (h : Lib.atoiAll l = .ok v) : i64 v := by
  unfold Lib.atoiAll at h
  unfold i64
  split at h
  · cases h
  · simp only at h
    split at h
    · cases h
    · cases h
    · rename_i u hu
      split at h
      · cases h
      · rename_i n1
        split at h
        · cases h
        · rename_i n2
          injection h with h
          subst h
          split <;> rename_i n3
          · have : ¬ 9223372036854775808 < u := fun hh => n2 ⟨n3, hh⟩
            omega
          · have : ¬ 9223372036854775808 ≤ u := fun hh => n1 ⟨n3, hh⟩
            omega
theorem atoi_some (s : ByteArray) (w : World) (E : GEnvS w) (hs : s.size ≤ 1000) :
    Calls Tryz.prog 26 #[.string s] w fun e w' => ∃ (v : Int) (er : Value), e = .returned (.tuple #[.int .i64 v, er]) ∧ i64 v ∧ Below w.heap.size w w' := by
  cases hA : Lib.atoiAll s.data.toList with
  | ok v =>
    refine (Tryz.strconv_Atoi_ok s (by omega) v hA w).mono ?_
    rintro e w' ⟨rfl, hw⟩
    refine ⟨v, _, rfl, atoi_bdG hA, ?_⟩
    rcases hw with rfl | ⟨t, rfl⟩
    · exact Below.refl _ _
    · exact Lib.bytesWorld_below _ _ _
  | «syntax» =>
    obtain ⟨t, v, hv⟩ := E.syn
    refine (Tryz.strconv_Atoi_syntax s (by omega) hA _ w hv (Or.inr ⟨_, _, rfl⟩)).mono ?_
    rintro e w' ⟨N, rfl, _, _, hb⟩
    exact ⟨0, _, rfl, by unfold i64; omega, hb⟩
  | range =>
    obtain ⟨t, v, hv⟩ := E.rng
    refine (Tryz.strconv_Atoi_range s (by omega) hA _ w hv (Or.inr ⟨_, _, rfl⟩)).mono ?_
    rintro e w' ⟨N, rfl, _, _, hb⟩
    exact ⟨_, _, rfl, by unfold i64 Lib.atoiSat; split <;> omega, hb⟩

set_option maxRecDepth 100000 in
set_option maxHeartbeats 4000000 in
theorem read_none (s : ByteArray) (L : Int) (w : World) (hE : GEnvS w) (hs : s.size ≤ 1000) (hno : ¬ GName s L) :
    Calls Tryz.prog 6 #[.string s, .int .i64 L] w fun e w' => e = .returned (.tuple #[.string ⟨#[]⟩, .agg #[.int .i64 0, .int .i64 0], .iface 40 (.int .i64 11)]) ∧ Below w.heap.size w w' := by
  have HE : Hid (GEnvS w) := hE
  have HNO : Hid (¬ GName s L) := hno
  clear hE hno
  go_enter Tryz.func6, Tryz.ntmps6
  go_wp2_with fail
  refine Calls.mono (cutd_some s _ hs) ?_
  rintro e W1 ⟨a, b, f, rfl, ha, hb, b1⟩
  have z0 := b1.block w.heap.size (by simp)
  rw [heap_alloc_new] at z0
  have B1 : Hid (Below w.heap.size w W1) := (dbel1 _ _).trans (b1.mono (by simp))
  have Z1 : Hid (W1.heap[w.heap.size]? = some (.cells #[.int .i64 0, .int .i64 0] 23 (0, 0)) ∧ w.heap.size < W1.heap.size) := ⟨z0, lt_of_block z0⟩
  clear b1 z0
  go_wp2_with fail
  refine Calls.mono (cutd_some b _ hb) ?_
  rintro e W2 ⟨c, d, f2, rfl, hc, hd, b2⟩
  have B2 : Hid (Below w.heap.size w W2) := B1.out.trans (b2.mono B1.out.size)
  have Z2 : Hid (W2.heap[w.heap.size]? = some (.cells #[.int .i64 0, .int .i64 0] 23 (0, 0))) := (b2.block _ Z1.out.2).trans Z1.out.1
  clear b2 B1 Z1
  go_wp2_with fail
  refine Calls.mono (atoi_some c _ (HE.out.below B2.out) hc) ?_
  rintro e W3 ⟨l, er1, rfl, hl, b3⟩
  have B3 : Hid (Below w.heap.size w W3) := B2.out.trans (b3.mono B2.out.size)
  have Z3 : Hid (W3.heap[w.heap.size]? = some (.cells #[.int .i64 0, .int .i64 0] 23 (0, 0))) := (b3.block _ (lt_of_block Z2.out)).trans Z2.out
  clear b3 B2 Z2
  go_wp2_with fail
  refine Calls.mono (atoi_some d _ (HE.out.below B3.out) hd) ?_
  rintro e W4 ⟨i, er2, rfl, hi, b4⟩
  have B4 : Hid (Below w.heap.size w W4) := B3.out.trans (b4.mono B3.out.size)
  have Z4 : Hid (W4.heap[w.heap.size]? = some (.cells #[.int .i64 0, .int .i64 0] 23 (0, 0))) := (b4.block _ (lt_of_block Z3.out)).trans Z3.out
  have HL : Hid (i64 l ∧ i64 i) := ⟨hl, hi⟩
  clear b4 B3 Z3 hl hi
  go_wp2_with fail
  refine Calls.mono (name_any a _ (by unfold maxLen; omega)) ?_
  rintro e W5 ⟨⟨bb, rfl, hbb⟩, hw5⟩
  have hlt4 := lt_of_block Z4.out
  have HBB : Hid (bb = true ↔ NameOk a) := hbb
  have z5 : W5.heap[w.heap.size]? = some (.cells #[.int .i64 0, .int .i64 0] 23 (0, 0)) := by rw [hw5]; exact (Below.heap_alloc _ _ _ hlt4).trans Z4.out
  have k5 : W5.heap[W4.heap.size]? = some (.cells #[.int .i64 l, .int .i64 i] 23 (0, 0)) := by rw [hw5]; exact heap_alloc_new W4 _
  have B5 : Hid (Below w.heap.size w W5) := by rw [Hid, hw5]; exact B4.out.trans ((dbel1 _ _).mono B4.out.size)
  have K5 : Hid (W5.heap[W4.heap.size]? = some (.cells #[.int .i64 l, .int .i64 i] 23 (0, 0)) ∧ W5.heap[w.heap.size]? = some (.cells #[.int .i64 0, .int .i64 0] 23 (0, 0))) := ⟨k5, z5⟩
  clear hw5 hbb B4 Z4 hlt4 z5 k5
  cases bb with
  | false =>
    have z7 := K5.out.2
    have f0 := box_cell (j := 0) z7 (by simp)
    have f1 := box_cell (j := 1) z7 (by simp)
    have ff : ∀ o, W5.frozen? ⟨w.heap.size, o, none⟩ = false := fun o => by simp [World.frozen?, z7]
    have fl := lt_of_block z7
    simp at f0 f1
    clear z7
    go_wp2_with fail
    refine bodyPost_ret (v := .tuple #[.string ⟨#[]⟩, .agg #[.int .i64 0, .int .i64 0], .iface 40 (.int .i64 11)]) (by simp [results, Tryz.results6, go_sem, *]) rfl ⟨rfl, ?_⟩
    exact (B5.out.setCell (by simp) _).setCell (by simp) _
  | true =>
    have HNM : Hid (NameOk a) := HBB.out.1 rfl
    have d0 := box_cell (j := 0) K5.out.1 (by simp)
    have d1 := box_cell (j := 1) K5.out.1 (by simp)
    simp at d0 d1
    have dl := lt_of_block K5.out.1
    clear HBB
    by_cases hg : (Iv.mk l i).good L
    · have HG : Hid ((Iv.mk l i).good L) := hg
      clear hg
      go_wp2_with fail
      refine Calls.mono (good_yes ⟨l, i⟩ L _ HG.out) ?_
      rintro e W6 ⟨rfl, b6⟩
      have K6 : Hid (W6.heap[W4.heap.size]? = some (.cells #[.int .i64 l, .int .i64 i] 23 (0, 0)) ∧ W6.heap[w.heap.size]? = some (.cells #[.int .i64 0, .int .i64 0] 23 (0, 0))) := ⟨(b6.block _ (lt_of_block K5.out.1)).trans K5.out.1, (b6.block _ (lt_of_block K5.out.2)).trans K5.out.2⟩
      have B6 : Hid (Below w.heap.size w W6) := B5.out.trans (b6.mono B5.out.size)
      clear d0 d1 dl b6 B5 K5
      have d0 := box_cell (j := 0) K6.out.1 (by simp)
      have d1 := box_cell (j := 1) K6.out.1 (by simp)
      simp at d0 d1
      have dl := lt_of_block K6.out.1
      go_wp2_with fail
      refine Calls.mono (name_of a ⟨l, i⟩ _ (HE.out.below B6.out).env (by omega) HL.out.1 HL.out.2) ?_
      rintro e W7 ⟨rfl, b7⟩
      have hne : gname a ⟨l, i⟩ ≠ s := fun e => by
        obtain ⟨l', i', n, e1, e2, h1, h2, h3⟩ := Iv.good_nat HG.out
        rw [e1] at e
        exact HNO.out ⟨a, l', i', n, e2, HNM.out, h1, h2, h3, e⟩
      have B7 : Hid (Below w.heap.size w W7) := B6.out.trans (b7.mono B6.out.size)
      have z7 := (b7.block _ (lt_of_block K6.out.2)).trans K6.out.2
      have f0 := box_cell (j := 0) z7 (by simp)
      have f1 := box_cell (j := 1) z7 (by simp)
      have ff : ∀ o, W7.frozen? ⟨w.heap.size, o, none⟩ = false := fun o => by simp [World.frozen?, z7]
      have fl := lt_of_block z7
      simp at f0 f1
      generalize gname a ⟨l, i⟩ = t at hne ⊢
      have hx1 : t.toList ≠ s.toList := fun h => hne (toList_inj.1 h)
      have hx2 : (t.toList == s.toList) = false := by simpa using hx1
      clear z7 b7 d0 d1 dl K6 B6 hne
      go_wp2_with fail
      refine bodyPost_ret (v := .tuple #[.string ⟨#[]⟩, .agg #[.int .i64 0, .int .i64 0], .iface 40 (.int .i64 11)]) (by simp [results, Tryz.results6, go_sem, *]) rfl ⟨rfl, ?_⟩
      exact (B7.out.setCell (by simp) _).setCell (by simp) _
    · have HG : Hid (¬ (Iv.mk l i).good L) := hg
      clear hg
      go_wp2_with fail
      refine Calls.mono (good_no ⟨l, i⟩ L _ HG.out) ?_
      rintro e W6 ⟨rfl, b6⟩
      have B6 : Hid (Below w.heap.size w W6) := B5.out.trans (b6.mono B5.out.size)
      have z7 := (b6.block _ (lt_of_block K5.out.2)).trans K5.out.2
      have f0 := box_cell (j := 0) z7 (by simp)
      have f1 := box_cell (j := 1) z7 (by simp)
      have ff : ∀ o, W6.frozen? ⟨w.heap.size, o, none⟩ = false := fun o => by simp [World.frozen?, z7]
      have fl := lt_of_block z7
      simp at f0 f1
      clear z7 b6 d0 d1 dl K5 B5
      go_wp2_with fail
      refine bodyPost_ret (v := .tuple #[.string ⟨#[]⟩, .agg #[.int .i64 0, .int .i64 0], .iface 40 (.int .i64 11)]) (by simp [results, Tryz.results6, go_sem, *]) rfl ⟨rfl, ?_⟩
      exact (B6.out.setCell (by simp) _).setCell (by simp) _
end Go.Proofs.YtiafamfnbpbfiaaGreatDoor

/- The circle of 2^64 places in plain numbers: distances, arcs, owners; no program in sight. -/
namespace Go.Proofs.YtiafamfnbpbfiaaGreatDoor
set_option linter.unusedVariables false

def dist (a b : Int) : Int := (b - a) % 18446744073709551616
def inB (x a b : Int) : Bool := a == b || (x != a && decide (dist a x ≤ dist a b))
def withinB (x a b : Int) : Bool := x != a && (a == b || decide (dist a x < dist a b))

/-- The first place in a list that isn't below x; 0 if all are, -1 if there is none. -/
def ownerN (l : List Int) (x : Int) : Int :=
  match l with
  | [] => -1
  | _ :: _ => ((l.findIdx? fun y => decide (x ≤ y)).getD 0 : Nat)

theorem owner_hit (l : List Int) (x : Int) (k : Nat) (hk : k < l.length) (hlo : ∀ j, j < k → l.getD j 0 < x) (hx : x ≤ l.getD k 0) : ownerN l x = k := by
  have h : l.findIdx? (fun y => decide (x ≤ y)) = some k := by
    rw [List.findIdx?_eq_some_iff_getElem]
    refine ⟨hk, ?_, ?_⟩
    · have : l.getD k 0 = l[k] := by simp [List.getD, hk]
      rw [this] at hx; simpa using hx
    · intro j hj
      have h1 := hlo j hj
      have : l.getD j 0 = l[j]'(by omega) := by simp [List.getD, show j < l.length by omega]
      rw [this] at h1; simpa using h1
  cases l with
  | nil => simp at hk
  | cons y l => simp only [ownerN, h]; rfl

theorem owner_miss (l : List Int) (x : Int) (hp : 0 < l.length) (hlo : ∀ j, j < l.length → l.getD j 0 < x) : ownerN l x = 0 := by
  have h : l.findIdx? (fun y => decide (x ≤ y)) = none := by
    rw [List.findIdx?_eq_none_iff]
    intro y hy
    obtain ⟨j, hj, rfl⟩ := List.getElem_of_mem hy
    have h1 := hlo j hj
    have : l.getD j 0 = l[j] := by simp [List.getD, hj]
    rw [this] at h1; simpa using h1
  cases l with
  | nil => simp at hp
  | cons y l => simp only [ownerN, h]; rfl


theorem dist_rng (a b : Int) : 0 ≤ dist a b ∧ dist a b < 18446744073709551616 := by unfold dist; omega

theorem dist_round (a b : Int) : (dist a b + dist b a) % 18446744073709551616 = 0 := by unfold dist; omega

theorem dist_self (a : Int) : dist a a = 0 := by unfold dist; simp

theorem within_of (x a b : Int) (hx : x ≠ a) (hab : a ≠ b) : withinB x a b = decide (dist a x < dist a b) := by
  rw [withinB, bne_iff_ne.2 hx, beq_eq_false_iff_ne.2 hab]; simp

theorem in_of (x a b : Int) (hx : x ≠ a) (hab : a ≠ b) : inB x a b = decide (dist a x ≤ dist a b) := by
  rw [inB, bne_iff_ne.2 hx, beq_eq_false_iff_ne.2 hab]; simp

theorem round_not (a b x : Int) (ha : 0 ≤ a ∧ a ≤ 18446744073709551615) (hb : 0 ≤ b ∧ b ≤ 18446744073709551615) (hx : 0 ≤ x ∧ x ≤ 18446744073709551615)
    (h1 : a ≠ b) (h2 : x ≠ a) (h3 : x ≠ b) : withinB x b a = !withinB x a b := by
  rw [within_of x a b h2 h1, within_of x b a h3 (Ne.symm h1)]
  by_cases h : dist a x < dist a b
  · have : ¬ dist b x < dist b a := by unfold dist at *; omega
    simp [h, this]
  · have : dist b x < dist b a := by unfold dist at *; omega
    simp [h, this]

theorem round_in (a b x : Int) (ha : 0 ≤ a ∧ a ≤ 18446744073709551615) (hb : 0 ≤ b ∧ b ≤ 18446744073709551615) (hx : 0 ≤ x ∧ x ≤ 18446744073709551615)
    (h1 : a ≠ b) (h2 : x ≠ a) (h3 : x ≠ b) : inB x a b = withinB x a b := by
  rw [within_of x a b h2 h1, in_of x a b h2 h1]
  by_cases h : dist a x < dist a b
  · have : dist a x ≤ dist a b := by omega
    simp [h, this]
  · have : ¬ dist a x ≤ dist a b := by unfold dist at *; omega
    simp [h, this]

theorem round_turn (a b x : Int) (ha : 0 ≤ a ∧ a ≤ 18446744073709551615) (hb : 0 ≤ b ∧ b ≤ 18446744073709551615) (hx : 0 ≤ x ∧ x ≤ 18446744073709551615)
    (h1 : a ≠ b) (h2 : x ≠ a) (h3 : x ≠ b) : withinB b a x = withinB a x b := by
  rw [within_of b a x (Ne.symm h1) (Ne.symm h2), within_of a x b (Ne.symm h2) h3]
  by_cases h : dist x a < dist x b
  · have : dist a b < dist a x := by unfold dist at *; omega
    simp [h, this]
  · have : ¬ dist a b < dist a x := by unfold dist at *; omega
    simp [h, this]

/-- Where finger n of x begins. -/
def startN (x n : Int) : Int := if n < 0 ∨ 63 < n then x else (x + 2 ^ n.toNat) % 18446744073709551616

theorem start_out (x n : Int) (h : n < 0 ∨ 63 < n) : startN x n = x := by rw [startN, if_pos h]
theorem start_in (x n : Int) (h0 : 0 ≤ n) (h1 : n ≤ 63) : startN x n = (x + 2 ^ n.toNat) % 18446744073709551616 := by rw [startN, if_neg (by omega)]

theorem pow_lt_M (k : Nat) (h : k ≤ 63) : (2 : Int) ^ k < 18446744073709551616 := by
  have h1 : (2 : Nat) ^ k ≤ 2 ^ 63 := Nat.pow_le_pow_right (by omega) h
  have h2 : ((2 : Nat) ^ k : Int) ≤ ((2 ^ 63 : Nat) : Int) := by exact_mod_cast h1
  have h3 : ((2 ^ 63 : Nat) : Int) = 9223372036854775808 := by decide
  rw [h3] at h2
  have h4 : (((2 : Nat) ^ k : Nat) : Int) = (2 : Int) ^ k := by simp
  omega

theorem pow_pos_k (k : Nat) : 0 < (2 : Int) ^ k := Int.pow_pos (by omega)

theorem dist_start (x n : Int) (h0 : 0 ≤ n) (h1 : n ≤ 63) : dist x (startN x n) = 2 ^ n.toNat := by
  rw [start_in x n h0 h1]
  have a := pow_lt_M n.toNat (by omega)
  have b := pow_pos_k n.toNat
  generalize (2 : Int) ^ n.toNat = y at *
  unfold dist; omega

theorem fingers_double (x n : Int) (h0 : 1 ≤ n) (h1 : n ≤ 63) : dist x (startN x n) = (2 * dist x (startN x (n - 1))) % 18446744073709551616 := by
  rw [dist_start x n (by omega) h1, dist_start x (n - 1) (by omega) (by omega)]
  have e : n.toNat = (n - 1).toNat + 1 := by omega
  have a := pow_lt_M n.toNat (by omega)
  have b := pow_pos_k n.toNat
  rw [e] at a b ⊢
  rw [Int.pow_succ] at a b ⊢
  generalize (2 : Int) ^ (n - 1).toNat = y at *
  omega

theorem finger_zero (x : Int) : dist x (startN x 0) = 1 := by rw [dist_start x 0 (by omega) (by omega)]; rfl

theorem start_rng (x n : Int) (hx : 0 ≤ x ∧ x ≤ 18446744073709551615) : 0 ≤ startN x n ∧ startN x n ≤ 18446744073709551615 := by
  by_cases h : n < 0 ∨ 63 < n
  · rw [start_out x n h]; exact hx
  · rw [start_in x n (by omega) (by omega)]; omega

theorem dist_turned (a b y : Int) : dist ((a + y) % 18446744073709551616) ((b + y) % 18446744073709551616) = dist a b := by unfold dist; omega

theorem beq_turned (a b y : Int) (ha : 0 ≤ a ∧ a ≤ 18446744073709551615) (hb : 0 ≤ b ∧ b ≤ 18446744073709551615) :
    ((a + y) % 18446744073709551616 == (b + y) % 18446744073709551616) = (a == b) := by
  by_cases h : a = b
  · subst h; simp
  · rw [beq_eq_false_iff_ne.2 h]; exact beq_eq_false_iff_ne.2 (by omega)

theorem bne_turned (a b y : Int) (ha : 0 ≤ a ∧ a ≤ 18446744073709551615) (hb : 0 ≤ b ∧ b ≤ 18446744073709551615) :
    ((a + y) % 18446744073709551616 != (b + y) % 18446744073709551616) = (a != b) := by
  rw [bne, beq_turned a b y ha hb]; rfl

theorem in_turned (x a b y : Int) (hx : 0 ≤ x ∧ x ≤ 18446744073709551615) (ha : 0 ≤ a ∧ a ≤ 18446744073709551615) (hb : 0 ≤ b ∧ b ≤ 18446744073709551615) :
    inB ((x + y) % 18446744073709551616) ((a + y) % 18446744073709551616) ((b + y) % 18446744073709551616) = inB x a b := by
  unfold inB; rw [beq_turned a b y ha hb, bne_turned x a y hx ha, dist_turned, dist_turned]

theorem within_turned (x a b y : Int) (hx : 0 ≤ x ∧ x ≤ 18446744073709551615) (ha : 0 ≤ a ∧ a ≤ 18446744073709551615) (hb : 0 ≤ b ∧ b ≤ 18446744073709551615) :
    withinB ((x + y) % 18446744073709551616) ((a + y) % 18446744073709551616) ((b + y) % 18446744073709551616) = withinB x a b := by
  unfold withinB; rw [beq_turned a b y ha hb, bne_turned x a y hx ha, dist_turned, dist_turned]

theorem chain_sum (a b c : Int) (h : inB b a c = true) (hac : a ≠ c) : (dist a b + dist b c) % 18446744073709551616 = dist a c ∧ dist a b ≤ dist a c := by
  refine ⟨by unfold dist; omega, ?_⟩
  unfold inB at h
  rw [beq_eq_false_iff_ne.2 hac] at h
  simp only [Bool.false_or, Bool.and_eq_true, decide_eq_true_eq] at h
  exact h.2

end Go.Proofs.YtiafamfnbpbfiaaGreatDoor

/- What ring.Dist, ring.In, ring.Within, ring.Start and ring.Owner answer, as plain functions on the integers; and that the answers which the document fixes are so (awake). -/
namespace Go.Proofs.YtiafamfnbpbfiaaGreatDoor
open Go.ChangeShapes Go.WideShapes Go.ChangeAt Go.RowKit

end Go.Proofs.YtiafamfnbpbfiaaGreatDoor

/- What ring.Hash and the document's Hash answer: one and the same number. -/
namespace Go.Proofs.YtiafamfnbpbfiaaGreatDoor
set_option linter.unusedVariables false
open Go.ChangeShapes Go.WideShapes Go.ChangeAt Go.RowKit

def hstep (h : Int) (c : UInt8) : Int :=
  bits .xor .u64 (IntKind.u64.wrap (bits .xor .u64 h (IntKind.u64.wrap c.toNat) * 18397679294719823053)) (IntKind.u64.wrap (bits .xor .u64 h (IntKind.u64.wrap c.toNat) * 18397679294719823053) / 4294967296)
def hashTo (n : Nat) (l : List UInt8) : Int := l.foldl hstep (bits .xor .u64 11400714819323198485 n)
def hend (h : Int) : Int :=
  bits .xor .u64 (IntKind.u64.wrap (h * 14181476777654086739)) (IntKind.u64.wrap (h * 14181476777654086739) / 536870912)
def hashN (s : ByteArray) : Int := hend (hashTo s.size s.data.toList)

theorem hashTo_snoc (s : ByteArray) (k : Nat) (h : k < s.size) : hashTo s.size (s.data.toList.take (k + 1)) = hstep (hashTo s.size (s.data.toList.take k)) s[k] := by
  rw [take_snoc s k h, hashTo, List.foldl_append]; rfl

theorem hashTo_all (s : ByteArray) (k : Nat) (h : ¬ k < s.size) : hend (hashTo s.size (s.data.toList.take k)) = hashN s := by
  rw [List.take_of_length_le (by simpa using h)]; rfl

theorem quo_wrap (x d : Int) (hd : 1 ≤ d) : IntKind.u64.wrap ((IntKind.u64.wrap x).tdiv d) = IntKind.u64.wrap x / d := by
  have h0 : 0 ≤ IntKind.u64.wrap x ∧ IntKind.u64.wrap x < 18446744073709551616 := by
    show 0 ≤ x % 18446744073709551616 ∧ x % 18446744073709551616 < 18446744073709551616
    omega
  generalize IntKind.u64.wrap x = y at *
  rw [Int.tdiv_eq_ediv_of_nonneg h0.1]
  show (y / d) % 18446744073709551616 = y / d
  have h1 : 0 ≤ y / d := Int.ediv_nonneg h0.1 (by omega)
  have h2 : y / d ≤ y := Int.ediv_le_self _ h0.1
  omega

theorem hash_any (s : ByteArray) (w : World) (hs : s.size ≤ 300) :
    Calls Tryz.prog 33 #[.string s] w fun e w' => e = .returned (.int .u64 (hashN s)) ∧ w' = w := by
  go_enter Tryz.func33, Tryz.ntmps33
  go_wp2
  go_loop [3, 11] (fun h i => ∃ k : Nat, k ≤ s.size ∧ i = .int .i64 k ∧ h = .int .u64 (hashTo s.size (s.data.toList.take k))) (fun _ i => s.size - (intOf i).toNat)
  case atStart => exact ⟨0, Nat.zero_le _, rfl, rfl⟩
  case round =>
    obtain ⟨k, hk, rfl, rfl⟩ := hrel
    by_cases hlt : k < s.size
    · have H : Hid (hashTo s.size (s.data.toList.take (k + 1)) = hstep (hashTo s.size (s.data.toList.take k)) s[k]) := hashTo_snoc s k hlt
      go_wp2
      go_round
      case rel => exact ⟨k + 1, by omega, by go_num, int_eq H.out.symm⟩
      case measure => simp [intOf]; omega
    · have H : Hid (hend (hashTo s.size (s.data.toList.take k)) = hashN s) := hashTo_all s k hlt
      go_wp2
      go_ret
      exact ⟨ret_i H.out, rfl⟩

theorem refhash_any (s : ByteArray) (w : World) (hs : s.size ≤ 300) :
    Calls Tryz.prog 34 #[.string s] w fun e w' => e = .returned (.int .u64 (hashN s)) ∧ w' = w := by
  go_enter Tryz.func34, Tryz.ntmps34
  go_wp2
  go_loop [3, 4] (fun h i => ∃ k : Nat, k ≤ s.size ∧ i = .int .i64 k ∧ h = .int .u64 (hashTo s.size (s.data.toList.take k))) (fun _ i => s.size - (intOf i).toNat)
  case atStart => exact ⟨0, Nat.zero_le _, rfl, rfl⟩
  case round =>
    obtain ⟨k, hk, rfl, rfl⟩ := hrel
    by_cases hlt : k < s.size
    · have H : Hid (hashTo s.size (s.data.toList.take (k + 1)) = hstep (hashTo s.size (s.data.toList.take k)) s[k]) := hashTo_snoc s k hlt
      go_wp2
      go_round
      case rel => exact ⟨k + 1, by omega, by go_num, int_eq (by rw [H.out, quo_wrap _ _ (by omega)]; rfl)⟩
      case measure => simp [intOf]; omega
    · have H : Hid (hend (hashTo s.size (s.data.toList.take k)) = hashN s) := hashTo_all s k hlt
      go_wp2
      go_ret
      exact ⟨ret_i (by rw [← H.out, quo_wrap _ _ (by omega)]; rfl), rfl⟩

end Go.Proofs.YtiafamfnbpbfiaaGreatDoor

/- errors.Is of two like codes. -/
namespace Go.Proofs.YtiafamfnbpbfiaaGreatDoor
open Go.ChangeShapes Go.WideShapes Go.ChangeAt Go.RowKit Go.Extern.Stop Go.Stop Go.Extern
set_option linter.unusedVariables false

theorem type_callL (v : Value) (w : World) : Sem.run Tryz.prog (callFunc 35 #[.iface 40 v]) w = .ok (.value (.iface 118 (.agg #[.pointer (some ⟨7, 40, none⟩)]))) w := by
  rw [@run_callFunc_extern Tryz.prog 35 _ Extern.ReflectliteType.typeOf Tryz.func35 (by kernel_rfl) (by kernel_rfl) (by kernel_rfl) (by kernel_rfl)]
  kernel_rfl
theorem comp_callL (w : World) : Sem.run Tryz.prog (callFunc 141 #[.agg #[.pointer (some ⟨7, 40, none⟩)]]) w = .ok (.value (.bool true)) w := by
  rw [@run_callFunc_extern Tryz.prog 141 _ (Extern.ReflectliteType.method fun t => do Go.Extern.Rtype.noPackHeld "Comparable" t; pure (.bool (← typeInfo t).comparable)) Tryz.func141 (by kernel_rfl) (by kernel_rfl) (by kernel_rfl) (by kernel_rfl)]
  kernel_rfl
theorem comp_methodL (v : Value) (w : World) : (Go.method 331 118 v "Comparable").run Tryz.prog w = .ok (141, v) w := by kernel_rfl
theorem code_compL : (Tryz.prog.info? 40).map (·.comparable) = some true := by kernel_rfl
/-- Two codes as errors are equal as their numbers are. -/
theorem eql_codesL (a b : Int) (w : World) : (binOp .eql 26 (.iface 40 (.int .i64 a)) (.iface 40 (.int .i64 b))).run Tryz.prog w = .ok (.bool (a == b)) w := by
  obtain ⟨i, hi, hc⟩ := Option.map_eq_some_iff.1 code_compL
  have h : ∀ d : Nat, (Op.equalIn (d + 2) 26 (.iface 40 (.int .i64 a)) (.iface 40 (.int .i64 b))).run Tryz.prog w = .ok (a == b) w := fun d => by
    simp [Op.equalIn, run_underlying Tryz.underlying26, run_underlying Tryz.underlying40, typeInfo, hi, hc]
  simp only [binOp]
  simp [Op.equal, Op.maxDepth, h 9998]

set_option maxRecDepth 100000 in
theorem is_code (c : Int) (w : World) :
    Calls Tryz.prog 13 #[.iface 40 (.int .i64 c), .iface 40 (.int .i64 c)] w fun e w' => e = .returned (.bool true) ∧ w' = w := by
  have h18 := type_callL
  have h45 := comp_callL
  have mC := comp_methodL
  have heq := eql_codesL c c w
  have hcc : (c == c) = true := by simp
  rw [hcc] at heq
  clear hcc
  go_enter Tryz.func13, Tryz.ntmps13
  go_wp2
  refine wp_loop_rounds 1 ?_
  rw [rounds_succ]
  go_wp2
  go_ret
  exact ⟨rfl, rfl⟩
end Go.Proofs.YtiafamfnbpbfiaaGreatDoor

/- An interval that came in. -/
namespace Go.Proofs.YtiafamfnbpbfiaaGreatDoor
open Go.ChangeShapes Go.WideShapes Go.ChangeAt Go.RowKit Go.Deep
set_option linter.unusedVariables false

def Iv.ok (t : Iv) : Prop := i64 t.lev ∧ i64 t.idx
theorem cellsIv : Tryz.prog.cellsOf 23 = 2 := by kernel_rfl
section
variable {H : Type} {enc' : TypeId × Value → H} {W : World}
set_option maxRecDepth 100000 in
theorem iv_of (n : Nat) (cs : List Value) (x : DataW H × List MemPlace) (h : DataW.trod enc' Tryz.prog W 0 (fun _ => true) true n 23 cs = some x) : ∃ t : Iv, cs = t.cells ∧ t.ok := by
  obtain ⟨xs, m, _, _, hl, hlen, hf⟩ := DataW.trod_struct Tryz.underlying23 h
  rw [cellsIv] at hl
  match cs, hl with
  | [c0, c1], _ =>
    match xs, hlen with
    | [y0, y1], _ =>
      have f0 := hf 0 _ rfl
      have f1 := hf 1 _ rfl
      simp [cellsI1] at f0 f1
      obtain ⟨k, e0, _, wk⟩ := DataW.trod_int Tryz.underlying3 f0
      obtain ⟨s, e1, _, ws⟩ := DataW.trod_int Tryz.underlying3 f1
      simp at e0 e1
      subst e0 e1
      exact ⟨⟨k, s⟩, rfl, bounds_i64 wk, bounds_i64 ws⟩
theorem iv_one {n : Nat} {cs : Array Value} {x : DataW H × List MemPlace} (hcs : cs.size = Tryz.prog.cellsOf 23) (h : DataW.trod enc' Tryz.prog W 0 (fun _ => true) true n 23 (Value.agg cs).cells.toList = some x) :
    ∃ t : Iv, cs = #[.int .i64 t.lev, .int .i64 t.idx] ∧ t.ok := by
  obtain ⟨t, ht, hok⟩ := iv_of n _ x h
  refine ⟨t, ?_, hok⟩
  have : cs.toList = t.cells := by simpa [Value.cells] using ht
  apply Array.toList_inj.1
  rw [this]; rfl
end
end Go.Proofs.YtiafamfnbpbfiaaGreatDoor

/- wigwaglaw08.GroupNames, walked. -/
namespace Go.Proofs.YtiafamfnbpbfiaaGreatDoor
open Go.ChangeShapes Go.WideShapes Go.ChangeAt Go.RowKit
set_option linter.unusedVariables false

def gkey (s : ByteArray) : Int := hashN (⟨#[103, 114, 111, 117, 112, 32]⟩ ++ s)
theorem gkey_size (s : ByteArray) (h : s.size ≤ 200) : (⟨#[103, 114, 111, 117, 112, 32]⟩ ++ s : ByteArray).size ≤ 300 := by
  rw [ByteArray.size_append]
  have : (⟨#[103, 114, 111, 117, 112, 32]⟩ : ByteArray).size = 6 := rfl
  omega
set_option maxHeartbeats 1000000 in
theorem key_any (s : ByteArray) (w : World) (hs : s.size ≤ 200) : Calls Tryz.prog 11 #[.string s] w fun e w' => e = .returned (.int .u64 (gkey s)) ∧ w' = w := by
  have h := gkey_size s hs
  have HH : Hid _ := fun W => hash_any (⟨#[103, 114, 111, 117, 112, 32]⟩ ++ s) W h
  have HK : Hid (gkey s = hashN (⟨#[103, 114, 111, 117, 112, 32]⟩ ++ s)) := (rfl : gkey s = hashN (⟨#[103, 114, 111, 117, 112, 32]⟩ ++ s))
  go_enter Tryz.func11, Tryz.ntmps11
  go_wp2_with fail
  refine Calls.mono (HH.out _) ?_
  rintro e w' ⟨rfl, hw'⟩
  subst w'
  rw [← HK.out]
  go_wp2
  go_ret
  exact ⟨rfl, rfl⟩
set_option maxHeartbeats 1000000 in
theorem rkey_any (s : ByteArray) (w : World) (hs : s.size ≤ 200) : Calls Tryz.prog 12 #[.string s] w fun e w' => e = .returned (.int .u64 (gkey s)) ∧ w' = w := by
  have h := gkey_size s hs
  have HH : Hid _ := fun W => refhash_any (⟨#[103, 114, 111, 117, 112, 32]⟩ ++ s) W h
  have HK : Hid (gkey s = hashN (⟨#[103, 114, 111, 117, 112, 32]⟩ ++ s)) := (rfl : gkey s = hashN (⟨#[103, 114, 111, 117, 112, 32]⟩ ++ s))
  go_enter Tryz.func12, Tryz.ntmps12
  go_wp2_with fail
  refine Calls.mono (HH.out _) ?_
  rintro e w' ⟨rfl, hw'⟩
  subst w'
  rw [← HK.out]
  go_wp2
  go_ret
  exact ⟨rfl, rfl⟩
/-- What the two readers answer of one text. -/
def TwoR (s : ByteArray) (L : Int) : Prop :=
  ∃ (a : ByteArray) (l i : Int) (er : Value) (ok : Bool), ((er = .nilIface ∧ ok = true) ∨ (er = .iface 40 (.int .i64 11) ∧ ok = false)) ∧
    (∀ W, GEnvS W → Calls Tryz.prog 6 #[.string s, .int .i64 L] W fun e w' => e = .returned (.tuple #[.string a, .agg #[.int .i64 l, .int .i64 i], er]) ∧ Below W.heap.size W w') ∧
    (∀ W, Calls Tryz.prog 7 #[.string s, .int .i64 L] W fun e w' => e = .returned (.tuple #[.string a, .agg #[.int .i64 l, .int .i64 i], .bool ok]) ∧ Below W.heap.size W w')
theorem two_r (s : ByteArray) (L : Int) (hs : s.size ≤ 1000) : TwoR s L := by
  by_cases hG : GName s L
  · obtain ⟨a, l, i, n, hn, ha, h1, h2, h3, h4⟩ := hG
    refine ⟨a, l, i, _, _, Or.inl ⟨rfl, rfl⟩, fun W hE => ?_, fun W => ?_⟩
    · have := read_of a l i n W hE.env ha h1 h2 h3
      rw [h4, ← hn] at this
      exact this
    · refine (rread_any s L W hs).mono ?_
      rintro e w' ⟨hR, hb⟩
      refine ⟨?_, hb⟩
      rcases hR with ⟨a', l', i', n', hn', ha', g1, g2, g3, g4, he⟩ | ⟨hno, _⟩
      · obtain ⟨e1, e2, e3⟩ := gname_inj ha' ha (g4.trans h4.symm)
        subst e1 e2 e3
        exact he
      · exact absurd ⟨a, l, i, n, hn, ha, h1, h2, h3, h4⟩ hno
  · refine ⟨_, 0, 0, _, _, Or.inr ⟨rfl, rfl⟩, fun W hE => read_none s L W hE hs hG, fun W => ?_⟩
    refine (rread_any s L W hs).mono ?_
    rintro e w' ⟨hR, hb⟩
    refine ⟨?_, hb⟩
    rcases hR with ⟨a', l', i', n', hn', ha', g1, g2, g3, g4, he⟩ | ⟨_, he⟩
    · exact absurd ⟨a', l', i', n', hn', ha', g1, g2, g3, g4⟩ hG
    · exact he

set_option maxRecDepth 100000 in
set_option maxHeartbeats 4000000 in
theorem nms_walk (a0 : ByteArray) (a1 : Iv) (a2 : ByteArray) (a3 : Int) (w : World) (hE : GEnvS w) (w0 : a0.size ≤ maxLen) (w1 : a1.ok) (w2 : a2.size ≤ maxLen) :
    Calls Tryz.prog 3 #[.string a0, .agg #[.int .i64 a1.lev, .int .i64 a1.idx], .string a2, .int .i64 a3] w fun e w' => e = .returned (.bool true) ∧ Below w.heap.size w w' := by
  have hc0 := cut_size a0 20
  have hc2 := cut_size a2 60
  have HC0 : Hid _ := fun W => cut_any a0 20 W w0
  have HC2 : Hid _ := fun W => cut_any a2 60 W w2
  obtain ⟨W0, hW0⟩ : ∃ W0, W0 = w.alloc (.cells #[.int .i64 a1.lev, .int .i64 a1.idx] 23) := ⟨_, rfl⟩
  have HZ : Hid (W0.heap[w.heap.size]? = some (.cells #[.int .i64 a1.lev, .int .i64 a1.idx] 23 (0, 0)) ∧ Below w.heap.size w W0) := by
    rw [hW0]; exact ⟨heap_alloc_new w _, dbel1 _ _⟩
  have HX : Hid (i64 a1.lev ∧ i64 a1.idx) := w1
  have HE : Hid (GEnvS w) := hE
  clear hE w0 w1 w2
  generalize cut a0 20 = t0 at *
  generalize cut a2 60 = s at *
  have H2 : TwoR s a3 := two_r s a3 (by omega)
  obtain ⟨a, l, i, er, ok, hok, R1, R2⟩ := H2
  have HR1 : Hid _ := R1
  have HR2 : Hid _ := R2
  have HOK : Hid _ := hok
  clear R1 R2 hok
  go_enter Tryz.func3, Tryz.ntmps3
  go_wp2_with fail
  rw [← hW0]
  clear hW0
  refine Calls.mono (HC0.out _) ?_
  rintro e w' ⟨rfl, hw'⟩
  subst w'
  go_wp2_with fail
  refine Calls.mono (HC2.out _) ?_
  rintro e w' ⟨rfl, hw'⟩
  subst w'
  clear HC0 HC2
  go_wp2_with fail
  refine Calls.mono (HR1.out _ (HE.out.below HZ.out.2)) ?_
  rintro e W1 ⟨rfl, b1⟩
  obtain ⟨V1, hV1⟩ : ∃ V1, V1 = W1.alloc (.cells #[.int .i64 l, .int .i64 i] 23) := ⟨_, rfl⟩
  have z1 := (b1.block _ (lt_of_block HZ.out.1)).trans HZ.out.1
  have HV1 : Hid (V1.heap[w.heap.size]? = some (.cells #[.int .i64 a1.lev, .int .i64 a1.idx] 23 (0, 0)) ∧ V1.heap[W1.heap.size]? = some (.cells #[.int .i64 l, .int .i64 i] 23 (0, 0)) ∧ Below w.heap.size w V1) := by
    rw [hV1]
    exact ⟨(Below.heap_alloc _ _ _ (lt_of_block z1)).trans z1, heap_alloc_new W1 _, (HZ.out.2.trans (b1.mono HZ.out.2.size)).trans ((dbel1 _ _).mono (Nat.le_trans HZ.out.2.size b1.size))⟩
  clear b1 z1
  go_wp2_with fail
  rw [← hV1]
  clear hV1
  refine Calls.mono (HR2.out _) ?_
  rintro e W2 ⟨rfl, b2⟩
  obtain ⟨V2, hV2⟩ : ∃ V2, V2 = W2.alloc (.cells #[.int .i64 l, .int .i64 i] 29) := ⟨_, rfl⟩
  have z1 := (b2.block _ (lt_of_block HV1.out.1)).trans HV1.out.1
  have z2 := (b2.block _ (lt_of_block HV1.out.2.1)).trans HV1.out.2.1
  have hB2 : Below w.heap.size w V2 := by
    rw [hV2]
    exact (HV1.out.2.2.trans (b2.mono HV1.out.2.2.size)).trans ((dbel1 _ _).mono (Nat.le_trans HV1.out.2.2.size b2.size))
  have y1 : V2.heap[w.heap.size]? = some (.cells #[.int .i64 a1.lev, .int .i64 a1.idx] 23 (0, 0)) := by rw [hV2]; exact (Below.heap_alloc _ _ _ (lt_of_block z1)).trans z1
  have y2 : V2.heap[W1.heap.size]? = some (.cells #[.int .i64 l, .int .i64 i] 23 (0, 0)) := by rw [hV2]; exact (Below.heap_alloc _ _ _ (lt_of_block z2)).trans z2
  have y3 : V2.heap[W2.heap.size]? = some (.cells #[.int .i64 l, .int .i64 i] 29 (0, 0)) := by rw [hV2]; exact heap_alloc_new W2 _
  have c10 := box_cell (j := 0) y1 (by simp)
  have c11 := box_cell (j := 1) y1 (by simp)
  have c20 := box_cell (j := 0) y2 (by simp)
  have c21 := box_cell (j := 1) y2 (by simp)
  have c30 := box_cell (j := 0) y3 (by simp)
  have c31 := box_cell (j := 1) y3 (by simp)
  simp at c10 c11 c20 c21 c30 c31
  have hE2 : GEnvS V2 := HE.out.below hB2
  obtain ⟨ι, F, _, hF0, hFb, hFc⟩ := grown_fam V2
  have d10 : ∀ j, (F j).cell? ⟨w.heap.size, 0, none⟩ = some (.int .i64 a1.lev) := fun j => cell_grown c10 (hFb j)
  have d11 : ∀ j, (F j).cell? ⟨w.heap.size, 1, none⟩ = some (.int .i64 a1.idx) := fun j => cell_grown c11 (hFb j)
  have d20 : ∀ j, (F j).cell? ⟨W1.heap.size, 0, none⟩ = some (.int .i64 l) := fun j => cell_grown c20 (hFb j)
  have d21 : ∀ j, (F j).cell? ⟨W1.heap.size, 1, none⟩ = some (.int .i64 i) := fun j => cell_grown c21 (hFb j)
  have d30 : ∀ j, (F j).cell? ⟨W2.heap.size, 0, none⟩ = some (.int .i64 l) := fun j => cell_grown c30 (hFb j)
  have d31 : ∀ j, (F j).cell? ⟨W2.heap.size, 1, none⟩ = some (.int .i64 i) := fun j => cell_grown c31 (hFb j)
  have HF : Hid ((∃ i, { V2 with drawn := V2.drawn + 1 } = F i) ∧ (∀ i, Below V2.heap.size V2 (F i)) ∧ (∀ i W, Below V2.heap.size (F i) W → ∃ j, W = F j)) := ⟨hF0, hFb, hFc⟩
  have HB2 : Hid (Below w.heap.size w V2) := hB2
  have KA : Hid (∀ j, Calls Tryz.prog 8 #[] (F j) fun e w' => e = .returned (.bool true) ∧ Below (F j).heap.size (F j) w') := fun j => awake8_any _ (hE2.below (hFb j)).env
  have KN : Hid (∀ j, Calls Tryz.prog 9 #[.string t0, .agg #[.int .i64 a1.lev, .int .i64 a1.idx]] (F j) fun e w' => e = .returned (.string (gname t0 a1)) ∧ Below (F j).heap.size (F j) w') := fun j => name_of t0 a1 _ (hE2.below (hFb j)).env (by omega) HX.out.1 HX.out.2
  have KR : Hid (∀ j, Calls Tryz.prog 10 #[.string t0, .agg #[.int .i64 a1.lev, .int .i64 a1.idx]] (F j) fun e w' => e = .returned (.string (gname t0 a1)) ∧ Below (F j).heap.size (F j) w') := fun j => rgname_any t0 a1 _ (by omega) HX.out.1 HX.out.2
  have KK : Hid (∀ j, Calls Tryz.prog 11 #[.string s] (F j) fun e w' => e = .returned (.int .u64 (gkey s)) ∧ w' = F j) := fun j => key_any s _ (by omega)
  have KL : Hid (∀ j, Calls Tryz.prog 12 #[.string s] (F j) fun e w' => e = .returned (.int .u64 (gkey s)) ∧ w' = F j) := fun j => rkey_any s _ (by omega)
  have KI : Hid (∀ j, Calls Tryz.prog 13 #[.iface 40 (.int .i64 11), .iface 40 (.int .i64 11)] (F j) fun e w' => e = .returned (.bool true) ∧ w' = F j) := fun j => is_code 11 _
  clear c10 c11 c20 c21 c30 c31 y1 y2 y3 z1 z2 b2 hB2 hE2 hF0 hFb hFc HV1
  generalize gname t0 a1 = nm at KN KR
  generalize gkey s = ky at KK KL
  go_wp2_with fail
  rw [← hV2]
  clear hV2
  rcases HOK.out with ⟨rfl, rfl⟩ | ⟨rfl, rfl⟩
  all_goals
    clear HOK
    refine wp_region_fam F HF.out.1 (by kernel_rfl) (by kernel_rfl) ?_
    repeat (go_big_quiet_step (first
      | (go_at_call 8; refine Calls.mono (KA.out _) ?_; rintro e' w' ⟨hs, hb⟩; exact ⟨hs, HF.out.2.2 _ _ (hb.mono (HF.out.2.1 _).size)⟩)
      | (go_at_call 9; refine Calls.mono (KN.out _) ?_; rintro e' w' ⟨hs, hb⟩; exact ⟨hs, HF.out.2.2 _ _ (hb.mono (HF.out.2.1 _).size)⟩)
      | (go_at_call 10; refine Calls.mono (KR.out _) ?_; rintro e' w' ⟨hs, hb⟩; exact ⟨hs, HF.out.2.2 _ _ (hb.mono (HF.out.2.1 _).size)⟩)
      | (go_at_call 11; refine Calls.mono (KK.out _) ?_; rintro e' w' ⟨hs, hb⟩; exact ⟨hs, _, hb⟩)
      | (go_at_call 12; refine Calls.mono (KL.out _) ?_; rintro e' w' ⟨hs, hb⟩; exact ⟨hs, _, hb⟩)
      | (go_at_call 13; refine Calls.mono (KI.out _) ?_; rintro e' w' ⟨hs, hb⟩; exact ⟨hs, _, hb⟩)))
    refine wpQuiet_nil ?_
    rintro _ ⟨j, rfl⟩
    have BF := HB2.out.trans ((HF.out.2.1 j).mono HB2.out.size)
    go_wp2
    go_ret
    exact ⟨by simp, BF⟩
end Go.Proofs.YtiafamfnbpbfiaaGreatDoor
