/- window.Come. -/
import Derived.Test.YtffdknjocmfmfaaWi
namespace Go.Proofs.Ytffdknjocmfmfaa
open Go.ChangeShapes Go.WideShapes Go.ChangeAt Go.RowKit
set_option linter.unusedVariables false

theorem come_bad (r : Nat) (p n : Int) (w : World) (h : ¬ EvOk p n) :
    Calls Try.prog 12 #[.pointer (some ⟨r, 0, none⟩), .int .i64 p, .int .i64 n] w fun e w' => e = .returned (.tuple #[.int .i64 0, .iface 54 (.int .i64 1)]) ∧ w' = w := by
  have hor : p < 0 ∨ (¬ p < 0 ∧ 32 ≤ p) ∨ (¬ p < 0 ∧ ¬ 32 ≤ p ∧ n < 1) ∨ (¬ p < 0 ∧ ¬ 32 ≤ p ∧ ¬ n < 1 ∧ 1073741824 < n) := by unfold EvOk at h; omega
  clear h
  rcases hor with h1 | ⟨h1, h2⟩ | ⟨h1, h2, h3⟩ | ⟨h1, h2, h3, h4⟩
  all_goals
    go_enter Try.func12, Try.ntmps12
    go_wp2
    go_ret2
    exact ⟨rfl, rfl⟩

theorem come_stale (r : Nat) (g : Option Nat) (L : List (Int × Int)) (p n : Int) (w : World) (h : WinAt w r g L) (hn : EvOk p n) (hs : 64 ≤ lastL L p - n) :
    Calls Try.prog 12 #[.pointer (some ⟨r, 0, none⟩), .int .i64 p, .int .i64 n] w fun e w' => e = .returned (.tuple #[.int .i64 3, .nilIface]) ∧ Below w.heap.size w w' := by
  obtain ⟨h1, h2, h3, h4⟩ := hn
  have q1 : ¬ p < 0 := by omega
  have q2 : ¬ 32 ≤ p := by omega
  have q3 : ¬ n < 1 := by omega
  have q4 : ¬ 1073741824 < n := by omega
  obtain ⟨c, _, e⟩ := h.asked p
  have x0 := h.cell
  have xz := h.lt
  have l1 := lastL_nonneg L p
  have l2 := lastL_le h.wok p
  obtain ⟨l, hl⟩ : ∃ l, l = lastL L p := ⟨_, rfl⟩
  rw [← hl] at e hs l1 l2
  clear hl h
  go_enter Try.func12, Try.ntmps12
  go_wp2
  go_ret2
  exact ⟨rfl, (Below.refl _ _).alloc (Nat.le_refl _) _⟩

theorem one_natW' (s : Nat) (h : s < 64) : IntKind.u64.wrap ((2 : Int) ^ s) = ((2 ^ s : Nat) : Int) := by
  have := one_natW s h
  rwa [Int.one_mul] at this
theorem come_twice (r : Nat) (g : Option Nat) (L : List (Int × Int)) (p n : Int) (w : World) (h : WinAt w r g L) (hn : EvOk p n) (hs : ¬ 64 ≤ lastL L p - n) (hm : (p, n) ∈ L) :
    Calls Try.prog 12 #[.pointer (some ⟨r, 0, none⟩), .int .i64 p, .int .i64 n] w fun e w' => e = .returned (.tuple #[.int .i64 2, .nilIface]) ∧ Below w.heap.size w w' := by
  obtain ⟨h1, h2, h3, h4⟩ := hn
  have q1 : ¬ p < 0 := by omega
  have q2 : ¬ 32 ≤ p := by omega
  have q3 : ¬ n < 1 := by omega
  have q4 : ¬ 1073741824 < n := by omega
  obtain ⟨c, hc, e⟩ := h.asked p
  have x0 := h.cell
  have xz := h.lt
  have l1 := lastL_nonneg L p
  have l2 := lastL_le h.wok p
  have q5 := lastL_ge hm
  have hb := bits_said hc q5 (by omega)
  obtain ⟨l, hl⟩ : ∃ l, l = lastL L p := ⟨_, rfl⟩
  rw [← hl] at e hs l1 l2 q5 hb hc
  have q6 : ¬ l < n := by omega
  obtain ⟨s, hs2⟩ : ∃ s : Nat, l = n + s := ⟨(l - n).toNat, by omega⟩
  have es : (l - n).toNat = s := by omega
  have hs3 : s < 64 := by omega
  rw [es] at hb
  have E2 : IntKind.u64.wrap ((2 : Int) ^ (l - n).toNat) = ((2 ^ s : Nat) : Int) := by
    rw [es]; exact one_natW' s hs3
  obtain ⟨b, hbe⟩ : ∃ b, b = 2 ^ s := ⟨_, rfl⟩
  have hb64 : b < 18446744073709551616 := by rw [hbe]; exact Nat.pow_lt_pow_right (a := 2) (n := 64) (by omega) hs3
  rw [← hbe] at E2 hb
  obtain ⟨d, hd⟩ : ∃ d, d = c &&& b := ⟨_, rfl⟩
  have E3 : bits .and .u64 (c : Int) (b : Int) = (d : Int) := by rw [hd]; exact and_natW c b hc.1 hb64
  have hd0 : ¬ (d : Int) = 0 := by
    intro q
    have : d = 0 := by omega
    rw [hd] at this
    exact hb.1 this hm
  have hd1 : ((d : Int) != 0) = true := by simpa using hd0
  clear hl h hb hd hbe hc es hs2 hm
  go_enter Try.func12, Try.ntmps12
  go_wp2
  go_ret2
  exact ⟨rfl, (Below.refl _ _).alloc (Nat.le_refl _) _⟩

set_option maxHeartbeats 1000000 in
theorem come_new1 (r : Nat) (g : Option Nat) (L : List (Int × Int)) (p n : Int) (w : World) (h : WinAt w r g L) (hn : EvOk p n) (hs : ¬ 64 ≤ lastL L p - n) (hm : (p, n) ∉ L) (hle : n ≤ lastL L p) :
    Calls Try.prog 12 #[.pointer (some ⟨r, 0, none⟩), .int .i64 p, .int .i64 n] w fun e w' => e = .returned (.tuple #[.int .i64 1, .nilIface]) ∧ ∃ g', WinAt w' r g' (L ++ [(p, n)]) ∧ Kw w w' (winB r g) ∧ (g' = g ∨ ∃ b, g' = some b ∧ w.heap.size ≤ b) := by
  have HN : Hid (EvOk p n) := hn
  obtain ⟨h1, h2, h3, h4⟩ := hn
  have q1 : ¬ p < 0 := by omega
  have q2 : ¬ 32 ≤ p := by omega
  have q3 : ¬ n < 1 := by omega
  have q4 : ¬ 1073741824 < n := by omega
  obtain ⟨c, hc, e⟩ := h.asked p
  have x0 := h.cell
  have xz := h.lt
  have l1 := lastL_nonneg L p
  have l2 := lastL_le h.wok p
  have hb := bits_said hc hle (by omega)
  have hset := bits_set hc hle (by omega) (Int.le_refl _) (.inr rfl)
  obtain ⟨l, hl⟩ : ∃ l, l = lastL L p := ⟨_, rfl⟩
  rw [← hl] at e hs l1 l2 hb hc hset hle
  have q6 : ¬ l < n := by omega
  obtain ⟨s, hs2⟩ : ∃ s : Nat, l = n + s := ⟨(l - n).toNat, by omega⟩
  have es : (l - n).toNat = s := by omega
  have hs3 : s < 64 := by omega
  rw [es] at hb hset
  have E2 : IntKind.u64.wrap ((2 : Int) ^ (l - n).toNat) = ((2 ^ s : Nat) : Int) := by
    rw [es]; exact one_natW' s hs3
  obtain ⟨b, hbe⟩ : ∃ b, b = 2 ^ s := ⟨_, rfl⟩
  have hb64 : b < 18446744073709551616 := by rw [hbe]; exact Nat.pow_lt_pow_right (a := 2) (n := 64) (by omega) hs3
  rw [← hbe] at E2 hb hset
  obtain ⟨d, hd⟩ : ∃ d, d = c &&& b := ⟨_, rfl⟩
  have E3 : bits .and .u64 (c : Int) (b : Int) = 0 := by rw [and_natW c b hc.1 hb64, hb.2 hm]; rfl
  obtain ⟨o, ho⟩ : ∃ o, o = c ||| b := ⟨_, rfl⟩
  have E4 : bits .or .u64 (c : Int) (b : Int) = (o : Int) := by rw [ho]; exact or_natW c b hc.1 hb64
  rw [← ho] at hset
  have HS : Hid (lastL (L ++ [(p, n)]) p = l ∧ BitsAt (L ++ [(p, n)]) p l o) := hset
  have HW : Hid (WinAt w r g L) := h
  clear hl h hb hd hbe hc es hs2 hm hset ho
  go_enter Try.func12, Try.ntmps12
  go_wp2_with (go_at_call 25; refine (keep_any _ _ _ _ n _ o _ (HW.out.below (below_oneW _ _)) HN.out HS.out.1 HS.out.2).mono ?_; rintro e w' ⟨rfl, g', hA, hK, hg⟩)
  go_ret2
  refine ⟨rfl, g', hA, (Kw.ofBelow (below_oneW _ _)).trans hK, ?_⟩
  rcases hg with hg | ⟨b, hg, hb⟩
  · exact .inl hg
  · exact .inr ⟨b, hg, by simp at hb; omega⟩

set_option maxHeartbeats 1000000 in
theorem come_new2 (r : Nat) (g : Option Nat) (L : List (Int × Int)) (p n : Int) (w : World) (h : WinAt w r g L) (hn : EvOk p n) (hle : lastL L p < n) :
    Calls Try.prog 12 #[.pointer (some ⟨r, 0, none⟩), .int .i64 p, .int .i64 n] w fun e w' => e = .returned (.tuple #[.int .i64 1, .nilIface]) ∧ ∃ g', WinAt w' r g' (L ++ [(p, n)]) ∧ Kw w w' (winB r g) ∧ (g' = g ∨ ∃ b, g' = some b ∧ w.heap.size ≤ b) := by
  have HN : Hid (EvOk p n) := hn
  obtain ⟨h1, h2, h3, h4⟩ := hn
  have q1 : ¬ p < 0 := by omega
  have q2 : ¬ 32 ≤ p := by omega
  have q3 : ¬ n < 1 := by omega
  have q4 : ¬ 1073741824 < n := by omega
  obtain ⟨c0, hc0, e⟩ := h.asked p
  have x0 := h.cell
  have xz := h.lt
  have l1 := lastL_nonneg L p
  have l2 := lastL_le h.wok p
  have hm : (p, n) ∉ L := fun q => by have := lastL_ge q; omega
  have hc := bits_up hc0 hle
  have hs1 := shl_natW c0 (min (n - lastL L p).toNat 64)
  obtain ⟨c, hce⟩ : ∃ c, c = c0 * 2 ^ min (n - lastL L p).toNat 64 % 18446744073709551616 := ⟨_, rfl⟩
  rw [← hce] at hc hs1
  have hb := bits_said hc (Int.le_refl n) (by omega)
  have hset := bits_set hc (Int.le_refl n) (by omega) (by omega) (.inl rfl)
  obtain ⟨l, hl⟩ : ∃ l, l = lastL L p := ⟨_, rfl⟩
  rw [← hl] at e hle l1 l2 hs1
  rw [show (n - n).toNat = 0 by omega, show 2 ^ 0 = 1 from rfl] at hb hset
  have q5 : ¬ 64 ≤ l - n := by omega
  have E1 : ∀ W : World, (Op.shift .shl .u64 (c0 : Int) .i64 (n - l)).run Try.prog W = .ok (.int .u64 c) W := fun W => by
    rw [shift_shl_any _ _ _ _ (by omega), show IntKind.u64.wrap ((c0 : Int) * 2 ^ min (n - l).toNat IntKind.u64.bits) = (c : Int) from hs1]; rfl
  have E3 : bits .and .u64 (c : Int) 1 = 0 := by
    have := and_natW c 1 hc.1 (by omega)
    rw [hb.2 hm] at this
    exact this
  obtain ⟨o, ho⟩ : ∃ o, o = c ||| 1 := ⟨_, rfl⟩
  have E4 : bits .or .u64 (c : Int) 1 = (o : Int) := by
    have := or_natW c 1 hc.1 (by omega)
    rw [ho]; exact this
  rw [← ho] at hset
  have HS : Hid (lastL (L ++ [(p, n)]) p = n ∧ BitsAt (L ++ [(p, n)]) p n o) := hset
  have HW : Hid (WinAt w r g L) := h
  clear hl h hb hc hm hset ho hce hs1 hc0
  go_enter Try.func12, Try.ntmps12
  go_wp2_with (go_at_call 25; refine (keep_any _ _ _ _ n _ o _ (HW.out.below (below_oneW _ _)) HN.out HS.out.1 HS.out.2).mono ?_; rintro e w' ⟨rfl, g', hA, hK, hg⟩)
  go_ret2
  refine ⟨rfl, g', hA, (Kw.ofBelow (below_oneW _ _)).trans hK, ?_⟩
  rcases hg with hg | ⟨b, hg, hb⟩
  · exact .inl hg
  · exact .inr ⟨b, hg, by simp at hb; omega⟩
/-- Come: any event. -/
theorem come_any (r : Nat) (g : Option Nat) (L : List (Int × Int)) (p n : Int) (w : World) (h : WinAt w r g L) (hn : EvOk p n) :
    Calls Try.prog 12 #[.pointer (some ⟨r, 0, none⟩), .int .i64 p, .int .i64 n] w fun e w' => e = .returned (.tuple #[.int .i64 (whatL L p n), .nilIface]) ∧ ∃ g', WinAt w' r g' (comeL L p n) ∧ Kw w w' (winB r g) ∧ (g' = g ∨ ∃ b, g' = some b ∧ w.heap.size ≤ b) := by
  by_cases h1 : 64 ≤ lastL L p - n
  · have e1 : whatL L p n = 3 := by simp [whatL, h1]
    have e2 : comeL L p n = L := comeL_not (by omega)
    rw [e1, e2]
    refine (come_stale r g L p n w h hn h1).mono ?_
    rintro e w' ⟨rfl, hb⟩
    exact ⟨rfl, g, h.below hb, Kw.ofBelow hb, .inl rfl⟩
  · by_cases h2 : (p, n) ∈ L
    · have e1 : whatL L p n = 2 := by simp [whatL, h1, h2]
      have e2 : comeL L p n = L := comeL_not (by omega)
      rw [e1, e2]
      refine (come_twice r g L p n w h hn h1 h2).mono ?_
      rintro e w' ⟨rfl, hb⟩
      exact ⟨rfl, g, h.below hb, Kw.ofBelow hb, .inl rfl⟩
    · have e1 : whatL L p n = 1 := by simp [whatL, h1, h2]
      rw [comeL_new e1, e1]
      by_cases h3 : n ≤ lastL L p
      · exact come_new1 r g L p n w h hn h1 h2 h3
      · exact come_new2 r g L p n w h hn (by omega)
end Go.Proofs.Ytffdknjocmfmfaa
