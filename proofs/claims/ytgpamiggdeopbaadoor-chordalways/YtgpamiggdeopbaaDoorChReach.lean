/- wigwaglaw10's head, Reaches, Turns. -/
import Derived.Test.YtgpamiggdeopbaaDoorChHop
namespace Go.Proofs.YtgpamiggdeopbaaDoor
open Go.ChangeShapes Go.WideShapes Go.ChangeAt Go.RowKit Go.Deep
set_option linter.unusedVariables false

set_option maxRecDepth 100000 in
set_option maxHeartbeats 2000000 in
theorem head10_p (r gp gk : Nat) (R : Rg) (n : Int) (p : Pe) (w : World) (h : RingAt w r gp gk R) (hn : R.kn n = some p) (hs : p.succ.length ≤ 1000) :
    Calls Tryd.prog 31 #[.pointer (some ⟨r, 0, none⟩), .int .i64 n] w fun e w' => e = .returned (.int .i64 (headF R.lives p.succ)) ∧ Below w.heap.size w w' := by
  have H : Hid (RingAt w r gp gk R) := h
  clear h
  go_enter Tryd.func31, Tryd.ntmps31
  go_wp2_with fail
  refine (peer_some r gp gk R n p _ H.out hn hs).mono ?_
  rintro e w2 ⟨a, len, c, rfl, hp, b2⟩
  have HL : Hid (InIn w2 a len p.succ) := hp.row
  have HN : Hid (p.succ.length = len) := hp.row.1
  have H2 : Hid (RingAt w2 r gp gk R ∧ Below w.heap.size w w2) := ⟨H.out.below b2, b2⟩
  have hm := hp.row.2.1
  clear hp b2 hn hs
  go_wp2
  go_loopg [20] len (fun kx s wr => ∃ k : Nat, s = .int .i64 k ∧ k ≤ len ∧ kx = len - k ∧ Hid (Below w2.heap.size w2 wr) ∧ Hid (headF R.lives (p.succ.drop k) = headF R.lives p.succ))
  case atStart => exact ⟨0, rfl, Nat.zero_le _, rfl, below_one _ _, (rfl : headF R.lives (p.succ.drop 0) = headF R.lives p.succ)⟩
  case round =>
    obtain ⟨k, rfl, hk, rfl, HB, I⟩ := hrel
    by_cases hlt : k < len
    · obtain ⟨b, o, rfl, hb, hx, hc⟩ := (HL.out.below (Nat.le_refl _) HB.out).one (v := Value.int .i64) (fun _ => rfl) (i := k) hlt
      have E : Hid (headF R.lives (p.succ.drop k) = if R.lives (p.succ.getD k 0) then p.succ.getD k 0 else headF R.lives (p.succ.drop (k + 1))) := headF_drop R.lives p.succ k (by rw [HN.out]; exact hlt)
      generalize p.succ.getD k 0 = x at hx hc E
      clear hx
      cases hq : R.lives x
      all_goals
        have HQ : Hid _ := hq
        clear hq
        go_wp2_with (go_at_call 21; refine (lives_r r gp gk R _ _ (H2.out.1.below HB.out)).mono ?_; rintro e w' ⟨rfl, hb'⟩; rw [HQ.out])
      · go_roundg (len - (k + 1))
        case measure => omega
        case rel => exact ⟨k + 1, by go_num, by omega, rfl, HB.out.trans (hb'.mono HB.out.size), by rw [← I.out, E.out, HQ.out]; rfl⟩
      · go_ret
        have bb := H2.out.2.trans (HB.out.mono H2.out.2.size)
        exact ⟨ret_i (by rw [← I.out, E.out, HQ.out]; rfl), bb.trans (hb'.mono bb.size)⟩
    · go_wp2
      go_ret
      exact ⟨ret_i (by rw [← I.out, List.drop_of_length_le (by rw [HN.out]; omega)]; rfl), H2.out.2.trans (HB.out.mono H2.out.2.size)⟩
theorem head10_r (r gp gk : Nat) (R : Rg) (n : Int) (w : World) (h : RingAt w r gp gk R) (hi : Inv R) (hn : R.lives n = true) :
    Calls Tryd.prog 31 #[.pointer (some ⟨r, 0, none⟩), .int .i64 n] w fun e w' => e = .returned (.int .i64 (R.head n)) ∧ Below w.heap.size w w' := by
  cases hk : R.kn n with
  | none => simp [Rg.lives, hk] at hn
  | some p =>
    have hp : R.know n = p := by simp [Rg.know, hk]
    have := head10_p r gp gk R n p w h hk (by have := hi.len n hn; rw [hp] at this; omega)
    unfold Rg.head
    rw [hi.lv, hp]
    exact this

set_option maxRecDepth 100000 in
set_option maxHeartbeats 2000000 in
theorem reaches_r (r gp gk : Nat) (R : Rg) (n : Int) (w : World) (h : RingAt w r gp gk R) (hi : Inv R) (hn : R.lives n = true) :
    Calls Tryd.prog 12 #[.pointer (some ⟨r, 0, none⟩), .int .i64 n] w fun e w' => e = .returned (.int .i64 0) ∧ Below w.heap.size w w' := by
  have H : Hid (RingAt w r gp gk R ∧ Inv R ∧ R.lives n = true) := ⟨h, hi, hn⟩
  clear h hi hn
  go_enter Tryd.func12, Tryd.ntmps12
  go_wp2
  go_loopg [6, 5, 1] 70 (fun kx s v x wr => ∃ k : Nat, s = .int .i64 k ∧ k ≤ 70 ∧ kx = 70 - k ∧ (∃ y z, v = .int .i64 z ∧ x = .int .i64 y ∧ Hid (z = R.seen n k) ∧ Hid (y = R.hop n k)) ∧ Hid (Below w.heap.size w wr))
  case atStart => exact ⟨0, rfl, Nat.zero_le _, rfl, ⟨_, _, rfl, rfl, (rfl : (0 : Int) = R.seen n 0), (rfl : n = R.hop n 0)⟩, (Below.refl _ _ : Below w.heap.size w w)⟩
  case round =>
    obtain ⟨k, rfl, hk, rfl, ⟨y, z, rfl, rfl, HZ, HY⟩, HB⟩ := hrel
    have HL : Hid (R.lives y = true) := by show R.lives y = true; rw [HY.out]; exact H.out.2.1.hop H.out.2.2 k
    have hy := H.out.2.1.rng y HL.out
    by_cases hlt : k < 70
    · have HN : Hid (R.head y = R.hop n (k + 1)) := by show R.head y = _; rw [HY.out]; rfl
      by_cases h4 : y < 4
      · have hq : y = 0 ∨ y = 1 ∨ y = 2 ∨ y = 3 := by omega
        have SE : Hid (R.seen n (k + 1) = seenV (R.vis 0 n k || y == 0) (R.vis 1 n k || y == 1) (R.vis 2 n k || y == 2) (R.vis 3 n k || y == 3)) := by
          show R.seen n (k + 1) = _
          rw [HY.out]; rfl
        rcases hq with e | e | e | e
        all_goals
          subst e
          go_wp2_with (go_at_call 31; refine (head10_r r gp gk R _ _ (H.out.1.below HB.out) H.out.2.1 HL.out).mono ?_; rintro e w' ⟨rfl, hb'⟩)
          go_roundg (70 - (k + 1))
          case measure => omega
          case rel =>
            refine ⟨k + 1, by go_num, by omega, rfl, ⟨_, _, rfl, rfl, ?_, HN⟩, HB.out.trans (hb'.mono HB.out.size)⟩
            have hz : z = seenV (R.vis 0 n k) (R.vis 1 n k) (R.vis 2 n k) (R.vis 3 n k) := HZ.out
            rw [hz, SE.out]
            generalize R.vis 0 n k = b0
            generalize R.vis 1 n k = b1
            generalize R.vis 2 n k = b2
            generalize R.vis 3 n k = b3
            show bits _ _ _ _ = _
            cases b0 <;> cases b1 <;> cases b2 <;> cases b3 <;> decide
      · have SE : Hid (R.seen n (k + 1) = z) := by
          show R.seen n (k + 1) = z
          rw [HZ.out]
          unfold Rg.seen
          rw [HY.out] at h4
          have e0 : (R.hop n k == 0) = false := by simp; omega
          have e1 : (R.hop n k == 1) = false := by simp; omega
          have e2 : (R.hop n k == 2) = false := by simp; omega
          have e3 : (R.hop n k == 3) = false := by simp; omega
          simp only [Rg.vis, e0, e1, e2, e3, Bool.or_false]
        go_wp2_with (go_at_call 31; refine (head10_r r gp gk R _ _ (H.out.1.below HB.out) H.out.2.1 HL.out).mono ?_; rintro e w' ⟨rfl, hb'⟩)
        go_roundg (70 - (k + 1))
        case measure => omega
        case rel => exact ⟨k + 1, by go_num, by omega, rfl, ⟨_, _, rfl, rfl, SE.out.symm, HN⟩, HB.out.trans (hb'.mono HB.out.size)⟩
    · obtain rfl : k = 70 := by omega
      have hz : z = 15 := by rw [HZ.out]; exact H.out.2.1.seen H.out.2.2
      subst hz
      go_wp2
      go_ret
      exact ⟨rfl, HB.out⟩

set_option maxRecDepth 100000 in
set_option maxHeartbeats 2000000 in
theorem turns_r (r gp gk : Nat) (R : Rg) (w : World) (h : RingAt w r gp gk R) (hi : Inv R) :
    Calls Tryd.prog 13 #[.pointer (some ⟨r, 0, none⟩)] w fun e w' => e = .returned (.int .i64 0) ∧ Below w.heap.size w w' := by
  have H : Hid (RingAt w r gp gk R ∧ Inv R) := ⟨h, hi⟩
  have HW0 : Hid (Way R 0 0) := (⟨hi.base 0 (by omega) (by omega), .inl ⟨rfl, rfl⟩⟩ : Way R 0 0)
  clear h hi
  go_enter Tryd.func13, Tryd.ntmps13
  go_wp2
  go_loopg [5, 4, 3] 40 (fun kx s v x wr => ∃ k : Nat, s = .int .i64 k ∧ k ≤ 40 ∧ kx = 40 - k ∧ (∃ y z, v = .int .u64 z ∧ x = .int .i64 y ∧ Hid (z = dist (R.idOf 0) (R.idOf y)) ∧ Hid (Way R y k)) ∧ Hid (Below w.heap.size w wr))
  case atStart => exact ⟨0, rfl, Nat.zero_le _, rfl, ⟨_, _, rfl, rfl, (dist_self (R.idOf 0)).symm, HW0⟩, (Below.refl _ _ : Below w.heap.size w w)⟩
  case round =>
    obtain ⟨k, rfl, hk, rfl, ⟨y, z, rfl, rfl, HZ, HY⟩, HB⟩ := hrel
    have hlt : k < 40 := HY.out.few H.out.2
    have hh := H.out.2.head HY.out.1
    have hr := H.out.2.rng _ hh.1
    obtain ⟨s1, s2, s3⟩ := HY.out.sum H.out.2
    have hn := HY.out.next H.out.2
    have r1 := dist_rng (R.idOf y) (R.idOf (R.head y))
    have r2 := dist_rng (R.idOf 0) (R.idOf y)
    have r3 := dist_rng (R.idOf 0) (R.idOf (R.head y))
    have HD : Hid (dist (R.idOf y) (R.idOf (R.head y)) = dist (R.idOf y) (R.idOf (R.head y))) := rfl
    rw [← HZ.out] at s2 s3 r2
    by_cases e0 : R.head y = 0 ∧ y ≠ 0
    · replace s2 := s2 e0
      clear s3 hn r3
      have HE : Hid (R.head y = 0) := e0.1
      rw [e0.1] at s1 s2 r1
      obtain ⟨d, hd⟩ : ∃ d, dist (R.idOf y) (R.idOf 0) = d := ⟨_, rfl⟩
      rw [hd] at s1 s2 r1
      have HDD : Hid (dist (R.idOf y) (R.idOf 0) = d) := hd
      have ez : IntKind.u64.wrap (z + d) = 0 := by rw [s2]; rfl
      have ed : (d == 0) = false := by simp; omega
      clear e0 hd hh hr HD s2
      go_wp2_with (first
        | (go_at_call 31; refine (head10_r r gp gk R _ _ (H.out.1.below HB.out) H.out.2 HY.out.1).mono ?_; rintro e w' ⟨rfl, hb'⟩; rw [HE.out]; have HB2 : Hid (Below w.heap.size w w') := HB.out.trans (hb'.mono HB.out.size); clear hb')
        | (go_at_call 32; refine (dist_any _ _ _).mono ?_; rintro e w'' ⟨rfl, rfl⟩; rw [HDD.out])
        | (go_at_call 22; refine (id_r _ _ _ _ _ _ (H.out.1.below HB2.out)).mono ?_; rintro e w'' ⟨rfl, rfl⟩))
      go_ret
      exact ⟨rfl, HB2.out⟩
    · have hn := hn.resolve_left e0
      have e1 : R.head y ≠ 0 := fun q => by
        by_cases e2 : y = 0
        · have := H.out.2.apart hh.2; rw [q, e2] at this; exact this rfl
        · exact e0 ⟨q, e2⟩
      have s3 := s3 e1
      have hx0 := hr.1
      obtain ⟨x, hx⟩ : ∃ x, R.head y = x := ⟨_, rfl⟩
      rw [hx] at s1 s3 r1 r3 hn hx0
      have HE : Hid (R.head y = x) := hx
      have HN : Hid (Way R x (k + 1)) := hn
      obtain ⟨d, hd⟩ : ∃ d, dist (R.idOf y) (R.idOf x) = d := ⟨_, rfl⟩
      rw [hd] at s1 s3 r1
      have HDD : Hid (dist (R.idOf y) (R.idOf x) = d) := hd
      have ez : IntKind.u64.wrap (z + d) = z + d := by simp [IntKind.wrap, IntKind.bits, IntKind.signed]; omega
      have el : ¬ z + d < d := by omega
      have ed : (d == 0) = false := by simp; omega
      have HS : Hid (z + d = dist (R.idOf 0) (R.idOf x)) := s3
      have xl : ¬ x < 0 := by omega
      clear e0 e1 hd hh hr HD s2 s3 hn hx r3
      go_wp2_with (first
        | (go_at_call 31; refine (head10_r r gp gk R _ _ (H.out.1.below HB.out) H.out.2 HY.out.1).mono ?_; rintro e w' ⟨rfl, hb'⟩; rw [HE.out]; have HB2 : Hid (Below w.heap.size w w') := HB.out.trans (hb'.mono HB.out.size); clear hb')
        | (go_at_call 32; refine (dist_any _ _ _).mono ?_; rintro e w'' ⟨rfl, rfl⟩; rw [HDD.out])
        | (go_at_call 22; refine (id_r _ _ _ _ _ _ (H.out.1.below HB2.out)).mono ?_; rintro e w'' ⟨rfl, rfl⟩))
      go_roundg (40 - (k + 1))
      case measure => omega
      case rel => exact ⟨k + 1, by go_num, by omega, rfl, ⟨_, _, rfl, rfl, HS, HN⟩, HB2⟩
end Go.Proofs.YtgpamiggdeopbaaDoor
