/- link.spell, link.read of what was spelt, link.confirm. -/
import Derived.Test.YtgbdnclolgdojaaLink
import Derived.Test.YtgbdnclolgdojaaCodeRI
import Derived.Test.YtgbdnclolgdojaaCodeRT
namespace Go.Proofs.Ytgbdnclolgdojaa
open Go.ChangeShapes Go.WideShapes Go.ChangeAt Go.RowKit
set_option linter.unusedVariables false

/-- A packet's bytes. -/
def pkB (n c : Int) (s : ByteArray) : List UInt8 := numB (zig n) ++ (numB (zig c) ++ (numB s.size ++ s.data.toList))
theorem pkB_len (n c : Int) (s : ByteArray) (hn : i64 n) (hc : i64 c) (hs : s.size ≤ 2000) : (pkB n c s).length ≤ 2030 := by
  have h1 := numB_len10 (zig n) (zig_lt n hn.1 hn.2)
  have h2 := numB_len10 (zig c) (zig_lt c hc.1 hc.2)
  have h3 := numB_len10 s.size (by omega)
  have h4 : s.data.toList.length = s.size := by simp
  simp only [pkB, List.length_append]
  omega

theorem two_blocks3 {w w1 : World} {a0 a1 a2 : Value} {T : TypeId} {B : Nat} (hB : w.heap.size < B) (hb : Below B (w.alloc (.cells #[a0, a1, a2] T)) w1) :
    w1.cell? ⟨w.heap.size, 0, none⟩ = some a0 ∧ w1.cell? ⟨w.heap.size, 1, none⟩ = some a1 ∧ w1.cell? ⟨w.heap.size, 2, none⟩ = some a2 := by
  have h := (hb.block w.heap.size hB).trans (heap_alloc_new w _)
  simp [World.cell?, h]
theorem three_block {w : World} {b : Nat} {a0 a1 a2 : Value} {t : TypeId} (h : w.heap[b]? = some (.cells #[a0, a1, a2] t (0, 0))) :
    w.cell? ⟨b, 0, none⟩ = some a0 ∧ w.cell? ⟨b, 1, none⟩ = some a1 ∧ w.cell? ⟨b, 2, none⟩ = some a2 ∧ ∀ o, w.frozen? ⟨b, o, none⟩ = false := by
  simp [World.cell?, World.frozen?, h]

set_option maxRecDepth 100000 in
theorem spell_any (n c : Int) (s : ByteArray) (w : World) (hn : i64 n) (hc : i64 c) (hs : s.size ≤ 2000) :
    Calls Try.prog 21 #[.agg #[.int .i64 n, .int .i64 c, .string s]] w fun e w' => (∃ S : ByteArray, e = .returned (.string S) ∧ S.data.toList = pkB n c s) ∧ Below w.heap.size w w' := by
  have h1 := numB_len10 (zig n) (zig_lt n hn.1 hn.2)
  have h2 := numB_len10 (zig c) (zig_lt c hc.1 hc.2)
  have hW0 := wr_new (w.heap.size + 1) (w.alloc (.cells #[.int .i64 n, .int .i64 c, .string s] 63)) (by simp)
  have hs0 : (w.alloc (.cells #[.int .i64 n, .int .i64 c, .string s] 63)).heap.size = w.heap.size + 1 := by simp
  rw [hs0] at hW0
  have b0 : Below (w.heap.size + 1) (w.alloc (.cells #[.int .i64 n, .int .i64 c, .string s] 63)) ((w.alloc (.cells #[.int .i64 n, .int .i64 c, .string s] 63)).alloc (.cells #[.slice none 0 0] 71)) := (Below.refl _ _).alloc (by simp) _
  have HN : Hid (i64 n ∧ i64 c) := ⟨hn, hc⟩
  clear hs0 hn hc
  go_enter Try.func21, Try.ntmps21
  go_wp2_with fail
  refine (wint_any (w.heap.size + 1) (w.heap.size + 1) _ [] n _ hW0 (by simp) HN.out.1.1 HN.out.1.2 (by simp)).mono ?_
  rintro e w1 ⟨rfl, v1, hW1, hK1⟩
  have b1 := hK1.below hW0 b0 (by simp)
  obtain ⟨c0, c1, c2⟩ := two_blocks3 (Nat.lt_succ_self _) b1
  have z1 : w.heap.size < w1.heap.size := by have := b1.size; simp at this; omega
  have z1' : w.heap.size + 1 < w1.heap.size := hW1.lt
  have H1 : Hid (Wr (w.heap.size + 1) w1 (w.heap.size + 1) v1 ([] ++ numB (zig n)) ∧ Below (w.heap.size + 1) (w.alloc (.cells #[.int .i64 n, .int .i64 c, .string s] 63)) w1) := ⟨hW1, b1⟩
  clear hW0 b0 hK1 hW1 b1
  go_wp2_with fail
  refine (wint_any (w.heap.size + 1) (w.heap.size + 1) v1 _ c _ H1.out.1 (by omega) HN.out.2.1 HN.out.2.2 (by simp; omega)).mono ?_
  rintro e w2 ⟨rfl, v2, hW2, hK2⟩
  have b2 := hK2.below H1.out.1 H1.out.2 (by omega)
  obtain ⟨d0, d1, d2⟩ := two_blocks3 (Nat.lt_succ_self _) b2
  have z2' : w.heap.size + 1 < w2.heap.size := hW2.lt
  have z2 : w.heap.size < w2.heap.size := by omega
  have H2 : Hid (Wr (w.heap.size + 1) w2 (w.heap.size + 1) v2 ([] ++ numB (zig n) ++ numB (zig c)) ∧ Below (w.heap.size + 1) (w.alloc (.cells #[.int .i64 n, .int .i64 c, .string s] 63)) w2) := ⟨hW2, b2⟩
  clear hK2 hW2 b2 H1 c0 c1 c2 z1 z1'
  go_wp2_with fail
  refine (wtext_any (w.heap.size + 1) (w.heap.size + 1) v2 _ s _ H2.out.1 (by omega) (by omega) (by simp; omega)).mono ?_
  rintro e w3 ⟨rfl, v3, hW3, hK3⟩
  have b3 := hK3.below H2.out.1 H2.out.2 (by omega)
  have z3' : w.heap.size + 1 < w3.heap.size := hW3.lt
  have H3 : Hid (Below w.heap.size w w3) := ((Below.refl _ _).alloc (Nat.le_refl _) _).trans (b3.mono (by omega))
  clear hK3 b3 H2 d0 d1 d2 z2 z2'
  go_wp2_with fail
  refine (bytes_any _ _ v3 _ _ hW3).mono ?_
  rintro e w4 ⟨rfl, hw4⟩
  rw [hw4]
  clear hw4
  go_wp2
  go_ret
  exact ⟨⟨_, rfl, by simp [pkB]⟩, H3.out⟩

theorem back_text (S s : ByteArray) (A : List UInt8) (p : Nat) (hp : p = A.length) (h : S.data.toList = A ++ s.data.toList) : S.extract p (p + s.size) = s := by
  subst hp
  apply ByteArray.ext
  apply Array.ext'
  have hl : s.data.toList.length = s.size := by simp
  have e : (S.extract A.length (A.length + s.size)).data.toList = (S.data.toList.drop A.length).take s.size := by
    simp [ByteArray.data_extract, List.extract_eq_take_drop]
  rw [e, h, List.drop_left, ← hl, List.take_length]

set_option maxRecDepth 100000 in
set_option maxHeartbeats 1000000 in
theorem read_back (n c : Int) (s S : ByteArray) (w : World) (hS : S.data.toList = pkB n c s) (hn : i64 n) (hc : i64 c) (hs : s.size ≤ 2000) (h1 : -1 ≤ n) (h2 : 0 ≤ c) (h3 : n = -1 → s = ByteArray.empty) :
    Calls Try.prog 22 #[.string S] w fun e w' => e = .returned (.tuple #[.agg #[.int .i64 n, .int .i64 c, .string s], .nilIface]) ∧ Below w.heap.size w w' := by
  have l1 := numB_len10 (zig n) (zig_lt n hn.1 hn.2)
  have l2 := numB_len10 (zig c) (zig_lt c hc.1 hc.2)
  have l3 := numB_len10 s.size (by omega)
  have hsl : S.size = (numB (zig n)).length + ((numB (zig c)).length + ((numB s.size).length + s.size)) := by
    have : S.data.toList.length = S.size := by simp
    rw [← this, hS]; simp [pkB]
  have r1 : rdNum 0 0 (S.data.toList.drop 0) = (zig n, (numB (zig n)).length, 0) := by
    rw [List.drop_zero, hS]; exact rd_back _ _ (zig_lt n hn.1 hn.2)
  have r2 : rdNum 0 0 (S.data.toList.drop (0 + (numB (zig n)).length)) = (zig c, (numB (zig c)).length, 0) := by
    rw [Nat.zero_add, hS, pkB, List.drop_left]; exact rd_back _ _ (zig_lt c hc.1 hc.2)
  have r3 : rdNum 0 0 (S.data.toList.drop (0 + (numB (zig n)).length + (numB (zig c)).length)) = (s.size, (numB s.size).length, 0) := by
    rw [Nat.zero_add, hS, pkB, ← List.append_assoc, ← List.length_append, List.drop_left]; exact rd_back _ _ (by omega)
  have hx : S.extract (0 + (numB (zig n)).length + (numB (zig c)).length + (numB s.size).length) (0 + (numB (zig n)).length + (numB (zig c)).length + (numB s.size).length + s.size) = s := by
    refine back_text S s (numB (zig n) ++ (numB (zig c) ++ numB s.size)) _ (by simp; omega) ?_
    rw [hS]; simp [pkB]
  obtain ⟨k1, hk1⟩ : ∃ k, k = (numB (zig n)).length := ⟨_, rfl⟩
  obtain ⟨k2, hk2⟩ : ∃ k, k = (numB (zig c)).length := ⟨_, rfl⟩
  obtain ⟨k3, hk3⟩ : ∃ k, k = (numB s.size).length := ⟨_, rfl⟩
  rw [← hk1] at r1 r2 r3 hsl l1 hx
  rw [← hk2] at r2 r3 hsl l2 hx
  rw [← hk3] at r3 hsl l3 hx
  have HH : Hid (rdNum 0 0 (S.data.toList.drop 0) = (zig n, k1, 0) ∧ rdNum 0 0 (S.data.toList.drop (0 + k1)) = (zig c, k2, 0) ∧ rdNum 0 0 (S.data.toList.drop (0 + k1 + k2)) = (s.size, k3, 0) ∧ S.extract (0 + k1 + k2 + k3) (0 + k1 + k2 + k3 + s.size) = s ∧ S.size = k1 + (k2 + (k3 + s.size)) ∧ (n = -1 → s = ByteArray.empty)) := ⟨r1, r2, r3, hx, hsl, h3⟩
  have hSs : S.size ≤ 1000000 := by omega
  clear hk1 hk2 hk3 r1 r2 r3 hx hsl h3 hS hn hc
  have q0 := rd_new (w.alloc (.cells #[.int .i64 0, .int .i64 0, .string { data := #[] }] 63)) S
  have hs0 : (w.alloc (.cells #[.int .i64 0, .int .i64 0, .string { data := #[] }] 63)).heap.size = w.heap.size + 1 := by simp
  rw [hs0] at q0
  clear hs0
  go_enter Try.func22, Try.ntmps22
  go_wp2_with fail
  refine (open_any _ _).mono ?_
  rintro e w0 ⟨he, hw0⟩
  have he' : e = .returned (.pointer (some ⟨w.heap.size + 1, 0, none⟩)) := by rw [he]; simp
  subst he'
  clear he
  rw [← hw0] at q0
  have b0 : Below w.heap.size w w0 := by rw [hw0]; exact ((Below.refl _ _).alloc (Nat.le_refl _) _).alloc (by simp) _
  have hR0 : w0.heap[w.heap.size]? = some (.cells #[.int .i64 0, .int .i64 0, .string { data := #[] }] 63 (0, 0)) := by
    rw [hw0]; exact (Below.heap_alloc _ _ _ (by simp)).trans (heap_alloc_new w _)
  clear hw0
  go_wp2_with fail
  refine (rint_any (w.heap.size + 1) S 0 (zig n) k1 0 _ q0 (by omega) hSs HH.out.1).mono ?_
  rintro e w1 ⟨rfl, q1, s1⟩
  rw [zag_zig]
  clear q0
  go_wp2_with fail
  refine (rint_any (w.heap.size + 1) S (0 + k1) (zig c) k2 0 _ q1 (by have := HH.out.2.2.2.2.1; omega) hSs HH.out.2.1).mono ?_
  rintro e w2 ⟨rfl, q2, s2⟩
  rw [zag_zig]
  clear q1
  go_wp2_with fail
  refine (rtext_ok (w.heap.size + 1) S (0 + k1 + k2) s.size k3 (0 + k1 + k2 + k3) rfl 2000 _ q2 (by have := HH.out.2.2.2.2.1; omega) hSs HH.out.2.2.1 (by omega) (by omega) (by have := HH.out.2.2.2.2.1; omega)).mono ?_
  rintro e w3 ⟨rfl, q3, s3⟩
  rw [HH.out.2.2.2.1]
  have sAll := (s1.trans s2).trans s3
  have hR3 : w3.heap[w.heap.size]? = some (.cells #[.int .i64 0, .int .i64 0, .string { data := #[] }] 63 (0, 0)) := (sAll.block w.heap.size (by omega)).trans hR0
  have b3 : Below w.heap.size w w3 := sAll.adds.below (Nat.le_succ _) b0.size b0
  clear q2 s1 s2 s3 sAll hR0 b0
  go_wp2_with fail
  refine (done_nil (w.heap.size + 1) S (0 + k1 + k2 + k3 + s.size) _ (q3.alloc _) (by have := HH.out.2.2.2.2.1; omega)).mono ?_
  rintro e w4 ⟨rfl, q4, a4⟩
  have hz3 : w.heap.size + 1 < w3.heap.size := q3.lt
  have hP4 := (a4.block w3.heap.size (by simp) (by omega)).trans (heap_alloc_new w3 _)
  have hR4 := (a4.block w.heap.size (by simp; omega) (by omega)).trans ((Below.heap_alloc w3 _ w.heap.size (by omega)).trans hR3)
  obtain ⟨c0, c1, c2, cf⟩ := three_block hR4
  obtain ⟨d0, d1, d2, df⟩ := three_block hP4
  have y0 := lt_of_block hR4
  have y1 := lt_of_block hP4
  have HB : Hid (Below w.heap.size w w4) := a4.below (Nat.le_succ _) (by simp; omega) (b3.alloc b3.size _)
  clear q3 q4 a4 hP4 hR4 hR3 b3
  by_cases hm : n = -1
  · have hse := HH.out.2.2.2.2.2 hm
    subst hm
    subst hse
    go_wp2
    refine bodyPost_ret (v := .tuple #[.agg #[.int .i64 (-1), .int .i64 c, .string ByteArray.empty], .nilIface]) (by simp [results, Try.results22, go_sem, c0, c1, c2]) rfl ⟨rfl, ?_⟩
    exact ((HB.out.setCell (by simp) _).setCell (by simp) _).setCell (by simp) _
  · have hm' : (n == -1) = false := by simpa using hm
    have hlt : ¬ n < -1 := by omega
    clear hm
    go_wp2
    refine bodyPost_ret (v := .tuple #[.agg #[.int .i64 n, .int .i64 c, .string s], .nilIface]) (by simp [results, Try.results22, go_sem, c0, c1, c2]) rfl ⟨rfl, ?_⟩
    exact ((HB.out.setCell (by simp) _).setCell (by simp) _).setCell (by simp) _

/-- What the peer's count does to an end. -/
def Lk.conf (l : Lk) (c : Int) : Lk := if 0 < c - l.acked ∧ c - l.acked ≤ l.q.length then { l with q := l.q.drop (c - l.acked).toNat, acked := c } else l

set_option maxRecDepth 100000 in
theorem confirm_any (base p o : Nat) (l : Lk) (c : Int) (w : World) (h : LkAt base w p o l) (hq : l.q.length ≤ 64) (ha : 0 ≤ l.acked) (ha2 : l.acked ≤ 9000000000000000000) (hc : 0 ≤ c) (hc2 : c ≤ 9223372036854775807) :
    Calls Try.prog 23 #[.pointer (some ⟨p, o, none⟩), .int .i64 c] w fun e w' => e = .returned (.tuple #[]) ∧ LkAt base w' p o (l.conf c) ∧ Chg w w' p o := by
  obtain ⟨a, cp, h1, h2, h3, h4⟩ := h.q
  have k1 := h.k1
  have hfz := h.fz
  have hlt := h.lt
  have HH : Hid (LkAt base w p o l) := h
  by_cases hy : 0 < c - l.acked ∧ c - l.acked ≤ l.q.length
  · have HC : Hid (l.conf c = { l with q := l.q.drop (c - l.acked).toNat, acked := c }) := by unfold Lk.conf; rw [if_pos hy]; exact (rfl : _ = _)
    obtain ⟨n, hn⟩ : ∃ n : Nat, c - l.acked = n := ⟨(c - l.acked).toNat, by omega⟩
    have hcn : c = l.acked + n := by omega
    have hn1 : 0 < n := by omega
    have hn2 : n ≤ l.q.length := by omega
    rcases h4 with h0 | ⟨b, o', hab, hb1, hb2, hb3⟩
    · rw [h0] at hn2; simp at hn2; omega
    subst hab
    have hdl : (l.q.drop n).length = l.q.length - n := List.length_drop
    obtain ⟨A, hA, hT⟩ : ∃ A : Addr, (if cp = n then some (⟨b, o', none⟩ : Addr) else some ⟨b, o' + n, none⟩) = some A ∧ TxRow base w (some A) (l.q.drop n) := by
      by_cases e : cp = n
      · exact ⟨⟨b, o', none⟩, by rw [if_pos e], .inl (List.eq_nil_of_length_eq_zero (by omega))⟩
      · refine ⟨⟨b, o' + n, none⟩, by rw [if_neg e], .inr ⟨b, o' + n, rfl, hb1, hb2, fun j hj => ?_⟩⟩
        have := hb3 (n + j) (by omega)
        rw [Nat.add_assoc, this]
        simp [tx, List.getD]
    have hj := joined_any base base (some A) none (cp - n) 0 (l.q.drop n) [] w hT (.inl rfl) (by omega) (by simp)
    rw [hdl, List.append_nil] at hj
    have hn3 : (0 : Int) ≤ (n : Int) := Int.natCast_nonneg _
    have hn4 : (n : Int) ≤ (l.q.length : Int) := by omega
    have hn5 : (l.q.length : Int) ≤ (cp : Int) := by omega
    have hn6 : ¬ (n : Int) ≤ 0 := by omega
    have hn7 : (n : Int) ≤ (cp : Int) := by omega
    have hn8 : n ≤ cp := by omega
    have HN : Hid (c - l.acked = (n : Int)) := hn
    clear h hy hT hdl hb1 hb2 hb3 hcn
    go_enter Try.func23, Try.ntmps23
    go_wp2_with fail
    refine hj.mono ?_
    rintro e w1 ⟨v, rfl, hr, hb⟩
    obtain ⟨hL, hC⟩ := HH.out.setQ hb hr
    obtain ⟨hL2, hC2⟩ := hL.setA c
    obtain ⟨a', c', hv', _⟩ := txrow_of hr
    have h1' := HH.out.below hb
    obtain ⟨a1, c1, g1, _⟩ := h1'.q
    have g2 := h1'.k1
    have kf := h1'.fz
    have hp1 := h1'.lt
    rw [List.length_drop] at hv'
    subst hv'
    have HX : Hid _ := And.intro hL2 (hC.trans hC2)
    clear hL hC hL2 hC2 hr hb h1' hj
    go_wp2
    go_end0
    rw [HC.out, HN.out, Int.toNat_natCast]
    exact ⟨rfl, HX.out⟩
  · have HC : Hid (l.conf c = l) := by unfold Lk.conf; rw [if_neg hy]; exact (rfl : _ = _)
    have hor : c - l.acked ≤ 0 ∨ (0 < c - l.acked ∧ (l.q.length : Int) < c - l.acked) := by omega
    clear hy h h4
    rcases hor with hor | ⟨hor', hor⟩
    all_goals
      go_enter Try.func23, Try.ntmps23
      go_wp2
      refine bodyPost_ret (results_none rfl _ _ _) rfl ?_
      rw [HC.out]
      exact ⟨rfl, HH.out, Chg.refl _ _ _⟩
end Go.Proofs.Ytgbdnclolgdojaa
