/- wigwagref04.SameTexts, wigwaglaw08.awake. -/
import Derived.Test.YtkkbhkpeglcodaaGreatDoorGrReach
import Derived.Test.YtkkbhkpeglcodaaGreatDoorValAwake
namespace Go.Proofs.YtkkbhkpeglcodaaGreatDoor
open Go.ChangeShapes Go.WideShapes Go.ChangeAt Go.RowKit
set_option linter.unusedVariables false

theorem StIn.ofBlock {w : World} {g n c : Nat} {t : TypeId} (xs : List ByteArray) (hn : n = xs.length) (h : w.heap[g]? = some (.cells (stc xs).toArray t (0, 0))) (hc : xs.length ≤ c) : StIn w (.slice (some ⟨g, 0, none⟩) n c) xs := by
  refine ⟨⟨_, c, by rw [hn], fun _ => ⟨g, rfl, lt_of_block h, hc, fun j hj => ?_⟩⟩⟩
  rw [blk_cell h (by simpa [stc] using hj)]
  simp [stc, hj]

set_option maxRecDepth 100000 in
set_option maxHeartbeats 1000000 in
theorem texts_any (v u : Value) (xs : List ByteArray) (w : World) (h : StIn w v xs) (h' : StIn w u xs) (hl : xs.length ≤ 1000) :
    Calls Tryz.prog 24 #[v, u] w fun e w' => e = .returned (.bool true) ∧ Below w.heap.size w w' := by
  obtain ⟨a, cp, rfl, hsh⟩ := h.shape
  obtain ⟨b, cq, rfl, hsh'⟩ := h'.shape
  have HS : Hid _ := hsh
  have HS' : Hid _ := hsh'
  clear h hsh h' hsh'
  go_enter Tryz.func24, Tryz.ntmps24
  go_wp2
  go_loopg [13] xs.length (fun kx s13 wr => ∃ k : Nat, s13 = .int .i64 k ∧ k ≤ xs.length ∧ kx = xs.length - k ∧ Hid (Below w.heap.size w wr))
  case atStart => exact ⟨0, rfl, Nat.zero_le _, rfl, (Below.refl _ _ : Below w.heap.size w w)⟩
  case round =>
    obtain ⟨k, rfl, hk, rfl, HB⟩ := hrel
    by_cases hlt : k < xs.length
    · obtain ⟨g, rfl, hg, hcap, hj⟩ := HS.out (by omega)
      obtain ⟨g', rfl, hg', hcap', hj'⟩ := HS'.out (by omega)
      have f0 := (HB.out.cell (p := ⟨g, k, none⟩) hg).trans (hj k hlt)
      have f2 := (HB.out.cell (p := ⟨g', k, none⟩) hg').trans (hj' k hlt)
      generalize xs.getD k ByteArray.empty = y at f0 f2
      clear hj hj'
      have ix : (0 : Int) ≤ (k : Int) ∧ (k : Int) < (xs.length : Int) := by omega
      go_wp2_with fail
      go_quiet (fail)
      have HB2 : Hid (Below w.heap.size w (wr.drewN nq)) := HB.out.trans ((dbeld _ _).mono HB.out.size)
      go_wp2
      go_roundg (xs.length - (k + 1))
      case measure => omega
      case rel => exact ⟨k + 1, by go_num, by omega, rfl, HB2⟩
    · go_wp2
      go_ret
      exact ⟨rfl, HB.out⟩

def gS : List At := [⟨sPrice, 1, 0, 7⟩]
def gF : List Pd := [⟨sPrice, 1, 1, 6, ByteArray.empty⟩]
def gV : List Vl := [⟨5, ByteArray.empty⟩]
theorem gS_ok : SchemaOk gS := by
  refine ⟨by decide, by decide, fun i hi => ?_⟩
  obtain rfl : i = 0 := by have : i < 1 := hi; omega
  exact ⟨⟨price_ok, .inl ⟨rfl, by decide, by decide, by decide⟩⟩, fun j hj => by omega⟩
theorem g_price : FindAt gS sPrice 0 := ⟨by decide, rfl, fun j hj => by omega⟩
theorem gF_ok : FilterOk gS gF := by
  refine ⟨by decide, by decide, fun i hi => ?_⟩
  obtain rfl : i = 0 := by have : i < 1 := hi; omega
  exact ⟨fun j hj => by omega, 0, g_price, .inl ⟨rfl, rfl, by decide, by decide, by decide, rfl⟩⟩
theorem gV_ok : EventOk gS gV 0 := by
  refine ⟨rfl, by decide, fun i hi => ?_⟩
  obtain rfl : i = 0 := by have : i < 1 := hi; omega
  exact .inl ⟨rfl, by decide, by decide, rfl⟩
theorem dec_one (n : Nat) (h : n < 10) : dec n = ⟨#[UInt8.ofNat (48 + n)]⟩ := by
  unfold dec Lib.itoa
  rw [if_neg (by omega), Int.toNat_natCast, Lib.decDigits_one h]
theorem d0' : dec 0 = ⟨#[48]⟩ := dec_one 0 (by decide)
theorem d1' : dec 1 = ⟨#[49]⟩ := dec_one 1 (by decide)
theorem d2' : dec 2 = ⟨#[50]⟩ := dec_one 2 (by decide)
theorem d3' : dec 3 = ⟨#[51]⟩ := dec_one 3 (by decide)
theorem d5' : dec 5 = ⟨#[53]⟩ := dec_one 5 (by decide)
theorem d6' : dec 6 = ⟨#[54]⟩ := dec_one 6 (by decide)
def gOf : List ByteArray := [⟨#[112, 114, 105, 99, 101, 46, 51, 46, 49]⟩, ⟨#[112, 114, 105, 99, 101, 46, 50, 46, 49]⟩, ⟨#[112, 114, 105, 99, 101, 46, 50, 46, 50]⟩, ⟨#[112, 114, 105, 99, 101, 46, 51, 46, 54]⟩]
def gTo : List ByteArray := [⟨#[112, 114, 105, 99, 101, 46, 48, 46, 48]⟩, ⟨#[112, 114, 105, 99, 101, 46, 49, 46, 49]⟩, ⟨#[112, 114, 105, 99, 101, 46, 50, 46, 50]⟩, ⟨#[112, 114, 105, 99, 101, 46, 51, 46, 53]⟩]
theorem gcell (v : Int) (h : 0 ≤ v ∧ v ≤ 7) : cellOf ⟨sPrice, 1, 0, 7⟩ ⟨v, ByteArray.empty⟩ 3 = v := by
  rw [cellOf_num (by decide) rfl ⟨by decide, by decide, h.1, h.2⟩]
  show (v - 0) * 2 ^ 3 / (7 - 0 + 1) = v
  omega
theorem gofs : ofs gS gF 3 0 = gOf := by
  have hrg : rg gS (gF.getD 0 pd0) 3 = (1, 6) := by
    unfold rg
    have hp : posA gS (gF.getD 0 pd0).name = 0 := posA_is (n := (gF.getD 0 pd0).name) g_price
    rw [hp, rangeOf_1 rfl]
    show (cellOf ⟨sPrice, 1, 0, 7⟩ ⟨1, ByteArray.empty⟩ 3, cellOf ⟨sPrice, 1, 0, 7⟩ ⟨6, ByteArray.empty⟩ 3) = (1, 6)
    rw [gcell 1 (by decide), gcell 6 (by decide)]
  unfold ofs
  rw [hrg]
  have hc : coverOf 1 6 3 = [⟨3, 1⟩, ⟨2, 1⟩, ⟨2, 2⟩, ⟨3, 6⟩] := (coverOf_nat (lo := 1) (hi := 6) (n := 3) (by decide) (by decide) (by decide)).trans cover163
  show (coverOf 1 6 3).map (gname sPrice) = gOf
  rw [hc]
  simp only [List.map_cons, List.map_nil, gname, d1', d2', d3', d6', gOf]
  rfl
theorem greach : reachs gS gV 3 1 = gTo := by
  show [] ++ rchAt gS gV 3 0 = gTo
  unfold rchAt
  have e : cellOf (gS.getD 0 at0) (gV.getD 0 vl0) 3 = 5 := gcell 5 (by decide)
  rw [e]
  have hc : chainOf 5 3 = [⟨0, 0⟩, ⟨1, 1⟩, ⟨2, 2⟩, ⟨3, 5⟩] := (chainOf_nat (c := 5) (n := 3) (by decide) (by decide)).trans (by decide +kernel)
  rw [hc]
  show (List.map (gname sPrice) [⟨0, 0⟩, ⟨1, 1⟩, ⟨2, 2⟩, ⟨3, 5⟩]) = gTo
  simp only [List.map_cons, List.map_nil, gname, d0', d1', d2', d3', d5', gTo]
  rfl
theorem OfIs.yes {e : Ending} {w w' : World} (h : OfIs e w w' gS gF 3) : ∃ v, e = .returned (.tuple #[v, .nilIface]) ∧ StRow w w' v gOf := by
  rcases h with ⟨n, b, v, _, he, _, hB, hR⟩ | ⟨t, u, _, hno⟩
  · obtain rfl : b = 0 := by have := hB.lt; have h1 : gF.length = 1 := rfl; omega
    rw [gofs] at hR
    exact ⟨v, he, hR⟩
  · exact absurd ⟨by decide, by decide, gS_ok, gF_ok⟩ hno
theorem ReachIs.yes {e : Ending} {w w' : World} (h : ReachIs e w w' gS gV 0 3) : ∃ v, e = .returned (.tuple #[v, .nilIface]) ∧ StRow w w' v gTo := by
  rcases h with ⟨v, he, _, hR⟩ | ⟨t, u, _, hno⟩
  · have h1 : gS.length = 1 := rfl
    rw [h1, greach] at hR
    exact ⟨v, he, hR⟩
  · exact absurd ⟨by decide, by decide, gS_ok, gV_ok⟩ hno

theorem szg (P : Nat → Prop) (h : P 0) : ∀ i, i < 1 → P i := fun i hi => by
  obtain rfl : i = 0 := by omega
  exact h
set_option maxRecDepth 100000 in
set_option maxHeartbeats 2000000 in
theorem awake8_any (w : World) (hE : GEnv w) : Calls Tryz.prog 8 #[] w fun e w' => e = .returned (.bool true) ∧ Below w.heap.size w w' := by
  obtain ⟨W1, hW1⟩ : ∃ W1, W1 = w.alloc (.cells #[.string sPrice, .int .i64 1, .int .i64 0, .int .i64 7] 79) := ⟨_, rfl⟩
  obtain ⟨W2, hW2⟩ : ∃ W2, W2 = W1.alloc (.cells #[.string sPrice, .int .i64 1, .int .i64 1, .int .i64 6, .string ⟨#[]⟩] 81) := ⟨_, rfl⟩
  have b1 : Below w.heap.size w W1 := by rw [hW1]; exact dbel1 _ _
  have b2 : Below W1.heap.size W1 W2 := by rw [hW2]; exact dbel1 _ _
  have s1 : W1.heap.size = w.heap.size + 1 := by rw [hW1]; simp
  have A1 : AtIn W1 (.slice (some ⟨w.heap.size, 0, none⟩) 1 1) gS := AtIn.ofBlock gS rfl (by rw [hW1]; exact heap_alloc_new w _) (by decide)
  have P2 : PdIn W2 (.slice (some ⟨w.heap.size + 1, 0, none⟩) 1 1) gF := PdIn.ofBlock gF rfl (by rw [hW2, ← s1]; exact heap_alloc_new W1 _) (by decide)
  have E2 : GEnv W2 := (hE.below b1).below b2
  have HOF : Hid _ := of_of _ _ gS gF 3 W2 E2 (A1.below b2) P2 (by decide) (by decide) (szg _ (by decide)) (szg _ ⟨by decide, by decide⟩)
  have HA2 : Hid (AtIn W2 (.slice (some ⟨w.heap.size, 0, none⟩) 1 1) gS ∧ GEnv W2 ∧ Below w.heap.size w W2) := ⟨A1.below b2, E2, b1.trans (b2.mono (by omega))⟩
  rw [hW1] at hW2
  clear b1 b2 A1 P2 E2 hW1 s1
  go_enter Tryz.func8, Tryz.ntmps8
  go_wp2_with fail
  rw [← hW2]
  clear hW2
  refine Calls.mono HOF.out ?_
  rintro e W3 ⟨hO, b3⟩
  obtain ⟨v3, rfl, R3⟩ := hO.yes
  have HA3 : Hid (AtIn W3 (.slice (some ⟨w.heap.size, 0, none⟩) 1 1) gS ∧ GEnv W3 ∧ Below w.heap.size w W3) := ⟨HA2.out.1.below b3, HA2.out.2.1.below b3, HA2.out.2.2.trans (b3.mono HA2.out.2.2.size)⟩
  have HI3 : Hid (StIn W3 v3 gOf) := R3.isIn
  clear hO b3 R3 HOF HA2
  obtain ⟨W4, hW4⟩ : ∃ W4, W4 = W3.alloc (.cells #[.int .i64 5, .string ⟨#[]⟩] 83) := ⟨_, rfl⟩
  have b4 : Below W3.heap.size W3 W4 := by rw [hW4]; exact dbel1 _ _
  have V4 : VlIn W4 (.slice (some ⟨W3.heap.size, 0, none⟩) 1 1) gV := VlIn.ofBlock gV rfl (by rw [hW4]; exact heap_alloc_new W3 _) (by decide)
  have HRE : Hid _ := reach_of _ _ gS gV ⟨#[]⟩ 3 W4 (HA3.out.2.1.below b4) (HA3.out.1.below b4) V4 (by decide) (by decide) (by decide) (szg _ (by decide)) (szg _ (by decide))
  have HB4 : Hid (Below W3.heap.size W3 W4) := b4
  clear b4 V4
  go_wp2_with fail
  rw [← hW4]
  clear hW4
  refine Calls.mono HRE.out ?_
  rintro e W5 ⟨hR, b5⟩
  obtain ⟨v5, rfl, R5⟩ := hR.yes
  have HB5 : Hid (Below W3.heap.size W3 W5) := HB4.out.trans (b5.mono HB4.out.size)
  have HI5 : Hid (StIn W5 v5 gTo ∧ StIn W5 v3 gOf) := ⟨R5.isIn, HI3.out.below HB5.out⟩
  clear hR b5 R5 HRE HB4
  obtain ⟨W6, hW6⟩ : ∃ W6, W6 = W5.alloc (.cells (stc gOf).toArray 9) := ⟨_, rfl⟩
  have b6 : Below W5.heap.size W5 W6 := by rw [hW6]; exact dbel1 _ _
  have HT6 : Hid _ := texts_any v3 (.slice (some ⟨W5.heap.size, 0, none⟩) 4 4) gOf W6 (HI5.out.2.below b6) (StIn.ofBlock gOf rfl (by rw [hW6]; exact heap_alloc_new W5 _) (by decide)) (by decide)
  have HB6 : Hid (Below W5.heap.size W5 W6) := b6
  clear b6
  go_wp2_with fail
  have hW6' : W6 = W5.alloc (.cells #[.string ⟨#[112, 114, 105, 99, 101, 46, 51, 46, 49]⟩, .string ⟨#[112, 114, 105, 99, 101, 46, 50, 46, 49]⟩, .string ⟨#[112, 114, 105, 99, 101, 46, 50, 46, 50]⟩, .string ⟨#[112, 114, 105, 99, 101, 46, 51, 46, 54]⟩] 9) := hW6
  rw [← hW6']
  clear hW6 hW6'
  refine Calls.mono HT6.out ?_
  rintro e W7 ⟨rfl, b7⟩
  have HB7 : Hid (Below W5.heap.size W5 W7) := HB6.out.trans (b7.mono HB6.out.size)
  clear b7 HT6 HB6
  obtain ⟨W8, hW8⟩ : ∃ W8, W8 = W7.alloc (.cells (stc gTo).toArray 9) := ⟨_, rfl⟩
  have b8 : Below W7.heap.size W7 W8 := by rw [hW8]; exact dbel1 _ _
  have HT8 : Hid _ := texts_any v5 (.slice (some ⟨W7.heap.size, 0, none⟩) 4 4) gTo W8 ((HI5.out.1.below HB7.out).below b8) (StIn.ofBlock gTo rfl (by rw [hW8]; exact heap_alloc_new W7 _) (by decide)) (by decide)
  have HB8 : Hid (Below W7.heap.size W7 W8) := b8
  clear b8
  go_wp2_with fail
  have hW8' : W8 = W7.alloc (.cells #[.string ⟨#[112, 114, 105, 99, 101, 46, 48, 46, 48]⟩, .string ⟨#[112, 114, 105, 99, 101, 46, 49, 46, 49]⟩, .string ⟨#[112, 114, 105, 99, 101, 46, 50, 46, 50]⟩, .string ⟨#[112, 114, 105, 99, 101, 46, 51, 46, 53]⟩] 9) := hW8
  rw [← hW8']
  clear hW8 hW8'
  refine Calls.mono HT8.out ?_
  rintro e W9 ⟨rfl, b9⟩
  have HB9 : Hid (Below w.heap.size w W9) := HA3.out.2.2.trans ((HB5.out.trans ((HB7.out.trans ((HB8.out.trans (b9.mono HB8.out.size)).mono HB7.out.size)).mono HB5.out.size)).mono HA3.out.2.2.size)
  clear b9
  go_wp2
  go_ret
  exact ⟨rfl, HB9.out⟩
end Go.Proofs.YtkkbhkpeglcodaaGreatDoor
