/- table.Move, Expire; Groups of an empty table. -/
import Derived.Test.YtffdknjocmfmfaaTbTake
import Derived.Test.YtffdknjocmfmfaaHash
import Derived.Deep.RegionHeld3
namespace Go.Proofs.Ytffdknjocmfmfaa
open Go.ChangeShapes Go.WideShapes Go.ChangeAt Go.RowKit
set_option linter.unusedVariables false

/-- Where a group lies. -/
def keyN (s : ByteArray) : Int := hashN ((⟨#[103, 114, 111, 117, 112, 32]⟩ : ByteArray) ++ s)
theorem key_any (s : ByteArray) (w : World) (hs : s.size ≤ 200) : Calls Try.prog 22 #[.string s] w fun e w' => e = .returned (.int .u64 (keyN s)) ∧ w' = w := by
  have hz : ((⟨#[103, 114, 111, 117, 112, 32]⟩ : ByteArray) ++ s).size ≤ 300 := by
    rw [ByteArray.size_append]
    have : (⟨#[103, 114, 111, 117, 112, 32]⟩ : ByteArray).size = 6 := rfl
    omega
  have hh := hash_any ((⟨#[103, 114, 111, 117, 112, 32]⟩ : ByteArray) ++ s) w hz
  have HH : Hid _ := hh
  clear hh hz
  go_enter Try.func22, Try.ntmps22
  go_wp2_with (go_at_call 34; refine Calls.mono HH.out ?_; rintro e w' ⟨rfl, rfl⟩)
  go_ret
  exact ⟨rfl, rfl⟩
theorem enter_move : ∀ args w, (callFunc 20 args).run Try.prog w = .ok (.enter 20 args) w := fun args w => by
  kernel_rfl
set_option maxHeartbeats 1000000 in
theorem move1_any (x : Ep) (b1 b2 : Nat) (a b : Int) (w : World) (h1 : w.cell? ⟨b1, 0, none⟩ = some (.int .u64 a)) (h2 : w.cell? ⟨b2, 0, none⟩ = some (.int .u64 b)) (hx : x.gr.size ≤ 200) :
    Calls Try.prog 20 (#[.agg #[.string x.gr, .int .i64 x.ch, .slice x.a x.ln x.cp, .bool x.any, .int .i64 x.till]] ++ #[.pointer (some ⟨b1, 0, none⟩), .pointer (some ⟨b2, 0, none⟩)]) w fun e w' => e = .returned (.bool (inB (keyN x.gr) a b)) ∧ Below w.heap.size w w' := by
  obtain ⟨W1, hW1⟩ : ∃ W1, W1 = w.alloc (.cells #[.string x.gr, .int .i64 x.ch, .slice x.a x.ln x.cp, .bool x.any, .int .i64 x.till] 32) := ⟨_, rfl⟩
  have B1 : Hid (Below w.heap.size w W1) := by rw [hW1]; exact (Below.refl _ _).alloc (Nat.le_refl _) _
  have y0 : W1.cell? ⟨w.heap.size, 0, none⟩ = some (.string x.gr) := by rw [hW1]; simp
  have y1 := cgE h1 B1.out
  have y2 := cgE h2 B1.out
  have l1 : b1 < W1.heap.size := World.block_lt_of_cell? _ _ y1
  have l2 : b2 < W1.heap.size := World.block_lt_of_cell? _ _ y2
  have l0 : w.heap.size < W1.heap.size := World.block_lt_of_cell? _ _ y0
  clear h1 h2
  go_enter Try.func20, Try.ntmps20
  go_upto_region 1 with fail
  rw [← hW1]
  clear hW1
  go_region_held3 (fun w' => w'.cell? ⟨w.heap.size, 0, none⟩ = some (.string x.gr) ∧ w'.cell? ⟨b1, 0, none⟩ = some (.int .u64 a) ∧ w'.cell? ⟨b2, 0, none⟩ = some (.int .u64 b))
    (first
      | go_keep
      | assumption)
    (first
      | (go_at_call 22; refine (key_any x.gr _ hx).mono ?_; rintro e w' ⟨rfl, hw'⟩; subst w')
      | (go_at_call 21; refine (in_any _ _ _ _).mono ?_; rintro e w' ⟨rfl, hw'⟩; subst w'))
  all_goals go_wp2
  all_goals go_ret
  all_goals exact ⟨rfl, B1.out.trans ⟨rfl, rfl, rfl, Nat.le_refl _, fun _ _ => rfl⟩⟩

/-- Those that go. -/
def goesB (a b : Int) (x : Ep) : Bool := inB (keyN x.gr) a b
set_option maxHeartbeats 1000000 in
theorem move_any (B r : Nat) (v : Value) (X : List Ep) (a b : Int) (w : World) (h : Tb w B r v X) (hB : B ≤ w.heap.size) (hx : ∀ x ∈ X, x.gr.size ≤ 200) :
    Calls Try.prog 8 #[.pointer (some ⟨r, 0, none⟩), .int .u64 a, .int .u64 b] w fun e w' => ∃ a' c v2, e = .returned (.slice a' (X.filter (goesB a b)).length c) ∧ Tb w' B r v2 (X.filter (fun x => !goesB a b x)) ∧ KT w w' r v v2 ∧ w'.ownsRow (w.heap.size + 2) 32 5 (.slice a' (X.filter (goesB a b)).length c) (X.filter (goesB a b)).length ((X.filter (goesB a b)).flatMap Ep.cells) ∧ ∀ b', (Value.slice a' (X.filter (goesB a b)).length c).ownBlock = some b' → v2.ownBlock ≠ some b' := by
  obtain ⟨W1, hW1⟩ : ∃ W1, W1 = (w.alloc (.cells #[.int .u64 a] 24)).alloc (.cells #[.int .u64 b] 24) := ⟨_, rfl⟩
  have b1 : Below w.heap.size w W1 := by rw [hW1]; exact ((Below.refl _ _).alloc (Nat.le_refl _) _).alloc (by simp) _
  have z1 : W1.heap.size = w.heap.size + 2 := by rw [hW1]; simp
  have y1 : W1.cell? ⟨w.heap.size, 0, none⟩ = some (.int .u64 a) := by rw [hW1]; simp
  have y2 : W1.cell? ⟨w.heap.size + 1, 0, none⟩ = some (.int .u64 b) := by rw [hW1]; simp
  have ht := take_any 20 #[.pointer (some ⟨w.heap.size, 0, none⟩), .pointer (some ⟨w.heap.size + 1, 0, none⟩)] (goesB a b) B r v X W1 enter_move (h.below b1) (Nat.le_trans hB b1.size)
    (fun W x hxm hb => move1_any x _ _ a b W (cgE y1 hb) (cgE y2 hb) (hx x hxm))
  have HT : Hid _ := ht
  have HB : Hid _ := b1
  clear ht b1 y1 y2
  go_enter Try.func8, Try.ntmps8
  go_wp2_with fail
  rw [← hW1]
  clear hW1
  refine Calls.mono HT.out ?_
  rintro e w2 ⟨a', c, v2, rfl, h1, h2, h3, h4⟩
  rw [z1] at h3
  go_wp2
  go_ret
  exact ⟨a', c, v2, rfl, h1, (KT.ofBelow HB.out).trans h2, h3, h4⟩
theorem groups_nil (B r : Nat) (v : Value) (w : World) (h : Tb w B r v []) :
    Calls Try.prog 9 #[.pointer (some ⟨r, 0, none⟩)] w fun e w' => e = .returned (.slice none 0 0) ∧ w' = w := by
  obtain ⟨a, c, hv⟩ := h.shape
  subst hv
  have x0 := h.cell
  have xl := h.lt
  clear h
  simp only [List.length_nil] at x0
  go_enter Try.func9, Try.ntmps9
  go_wp2
  refine wp_loop_rounds 1 ?_
  rw [rounds_succ]
  go_wp2_with (go_at_call 23; refine (Try.slices_Compact_string_empty none 0 _).mono ?_; rintro e w' ⟨rfl, rfl⟩)
  go_ret
  exact ⟨rfl, rfl⟩
theorem key_rng (s : ByteArray) : 0 ≤ keyN s ∧ keyN s < 18446744073709551616 := by
  have h : ∀ x : Int, 0 ≤ IntKind.u64.wrap x ∧ IntKind.u64.wrap x < 18446744073709551616 := fun x => by
    show 0 ≤ x % 18446744073709551616 ∧ x % 18446744073709551616 < 18446744073709551616
    omega
  exact h _
/-- What doesn't lie on the one way lies on the other. -/
theorem in_other (k a b : Int) (hk : 0 ≤ k ∧ k < 18446744073709551616) (ha : 0 ≤ a ∧ a < 18446744073709551616) (hb : 0 ≤ b ∧ b < 18446744073709551616) (hab : a ≠ b) : inB k b a = !inB k a b := by
  have hab' : (a == b) = false := by simpa using hab
  have hba' : (b == a) = false := by simpa using (Ne.symm hab)
  unfold inB
  rw [hab', hba']
  simp only [Bool.false_or]
  by_cases h1 : k = a
  · subst h1
    have : (k != b) = true := by simpa using hab
    simp [this]
  · by_cases h2 : k = b
    · subst h2
      have : (k != a) = true := by simpa using h1
      simp [this]
    · have q1 : (k != a) = true := by simpa using h1
      have q2 : (k != b) = true := by simpa using h2
      rw [q1, q2]
      simp only [Bool.true_and]
      have : (dist b k ≤ dist b a) ↔ ¬ (dist a k ≤ dist a b) := by unfold dist; omega
      by_cases q : dist a k ≤ dist a b
      · have : ¬ dist b k ≤ dist b a := fun e => this.1 e q
        simp [q, this]
      · simp [q, this.2 q]
theorem in_all (k a : Int) : inB k a a = true := by simp [inB]
/-- Out by one way, and by the other: all. -/
theorem ways_all (X : List Ep) (a b : Int) (ha : 0 ≤ a ∧ a < 18446744073709551616) (hb : 0 ≤ b ∧ b < 18446744073709551616) (hab : a ≠ b) :
    (X.filter (fun x => !goesB a b x)).filter (goesB b a) = X.filter (fun x => !goesB a b x) ∧ (X.filter (fun x => !goesB a b x)).filter (fun x => !goesB b a x) = [] ∧ (X.filter (goesB a b)).length + (X.filter (fun x => !goesB a b x)).length = X.length := by
  have h : ∀ x, goesB b a x = !goesB a b x := fun x => in_other _ _ _ (key_rng _) ha hb hab
  refine ⟨?_, ?_, ?_⟩
  · rw [List.filter_eq_self]; intro x hx; rw [h]; exact (List.mem_filter.1 hx).2
  · rw [List.filter_eq_nil_iff]; intro x hx; rw [h]; have := (List.mem_filter.1 hx).2; simp at this ⊢; exact this
  · clear h ha hb hab
    induction X with
    | nil => rfl
    | cons x X ih => cases q : goesB a b x <;> simp [q] <;> omega
theorem way_all (X : List Ep) (a : Int) : X.filter (goesB a a) = X ∧ X.filter (fun x => !goesB a a x) = [] := by
  refine ⟨?_, ?_⟩
  · rw [List.filter_eq_self]; intro x _; exact in_all _ _
  · rw [List.filter_eq_nil_iff]; intro x _; simp [goesB, in_all]
theorem OwnT.move {B : Nat} {w0 w : World} {r : Nat} {X : List Ep} (h : OwnT B w0 w r X) (a b : Int) (hx : ∀ x ∈ X, x.gr.size ≤ 200) :
    Calls Try.prog 8 #[.pointer (some ⟨r, 0, none⟩), .int .u64 a, .int .u64 b] w fun e w' => ∃ a' c, e = .returned (.slice a' (X.filter (goesB a b)).length c) ∧ OwnT B w0 w' r (X.filter (fun x => !goesB a b x)) := by
  obtain ⟨v, hv⟩ := h.tab
  refine (move_any B r v X a b w hv h.size hx).mono ?_
  rintro e w' ⟨a', c, v2, rfl, h1, h2, _⟩
  exact ⟨a', c, rfl, ⟨v2, h1⟩, h.bel.trans (h2.below hv.lo hv.vlo h.size), Nat.le_trans h.size h2.size⟩
theorem OwnT.groups {B : Nat} {w0 w : World} {r : Nat} (h : OwnT B w0 w r []) :
    Calls Try.prog 9 #[.pointer (some ⟨r, 0, none⟩)] w fun e w' => e = .returned (.slice none 0 0) ∧ w' = w := by
  obtain ⟨v, hv⟩ := h.tab
  exact groups_nil B r v w hv
end Go.Proofs.Ytffdknjocmfmfaa
