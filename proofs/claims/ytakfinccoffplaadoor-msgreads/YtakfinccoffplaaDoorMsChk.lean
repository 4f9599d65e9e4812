/- What msg.Check does. -/
import Derived.Test.YtakfinccoffplaaDoorRows
import Derived.Test.YtakfinccoffplaaDoorMsMath
import Derived.WalkKit
import Derived.ProofKit
import Derived.OpenShut
import Derived.WalkLawsBesides
import Derived.Outline
namespace Go.Proofs.YtakfinccoffplaaDoor
open Go.ChangeShapes Go.WideShapes Go.ChangeAt Go.RowKit
set_option linter.unusedVariables false

/-- A message as it is handed over: its two rows lie where fv and vv show. -/
def Mg.val (m : Mg) (fa : Option Addr) (fc : Nat) (va : Option Addr) (vc : Nat) : Value :=
  .agg #[.int .i64 m.kind, .string m.group, .bool m.any, .slice fa m.fl.length fc, .int .i64 m.pub, .int .i64 m.seq, .int .i64 m.hops, .slice va m.vl.length vc, .string m.pay]
/-- A code as an error. -/
def cdV (c : Nat) : Value := if c = 0 then .nilIface else .iface 40 (.int .i64 c)
theorem cdV0 : cdV 0 = .nilIface := rfl
theorem cdV_ne (c : Nat) (h : c ≠ 0) : cdV c = .iface 40 (.int .i64 c) := by unfold cdV; rw [if_neg h]

theorem str_ne (s : ByteArray) (h : 0 < s.size) : s.toList.isEmpty = false := by
  cases hl : s.toList with
  | nil =>
    have e : s.toList.length = s.size := by rw [ByteArray.toList_eq]; simp
    rw [hl] at e
    simp at e; omega
  | cons a l => rfl

theorem below_cells {W w1 : World} (hb : Below W.heap.size W w1) : ∀ b o, b < W.heap.size → w1.cell? ⟨b, o, none⟩ = W.cell? ⟨b, o, none⟩ :=
  fun b o h => hb.cell (p := ⟨b, o, none⟩) h

theorem content_any (va : Option Addr) (n vc : Nat) (s : ByteArray) (w : World) (hn : n ≤ 9223372036854775807) :
    Calls Tryd.prog 45 #[.agg #[.slice va n vc, .string s]] w fun e w' => e = .returned (.bool (decide (0 < n ∨ 0 < s.size))) ∧ Below w.heap.size w w' := by
  by_cases h0 : 0 < n
  · have hd : decide (0 < n ∨ 0 < s.size) = true := by simp [h0]
    rw [hd]; clear hd
    have h1 : (0 : Int) < (n : Int) := by omega
    go_enter Tryd.func45, Tryd.ntmps45
    go_wp2
    go_ret
    exact ⟨rfl, (Below.refl _ _).alloc (Nat.le_refl _) _⟩
  · have h1 : ¬ (0 : Int) < (n : Int) := by omega
    by_cases hs : 0 < s.size
    · have hd : decide (0 < n ∨ 0 < s.size) = true := by simp [hs]
      rw [hd]; clear hd
      have hne : s.toList.isEmpty = false := str_ne s hs
      go_enter Tryd.func45, Tryd.ntmps45
      go_wp2
      go_ret
      exact ⟨rfl, (Below.refl _ _).alloc (Nat.le_refl _) _⟩
    · have hd : decide (0 < n ∨ 0 < s.size) = false := decide_eq_false (by omega)
      rw [hd]; clear hd
      have := ba_nil s hs
      subst this
      go_enter Tryd.func45, Tryd.ntmps45
      go_wp2
      go_ret
      exact ⟨rfl, (Below.refl _ _).alloc (Nat.le_refl _) _⟩

theorem checkE_any (m : Mg) (fa : Option Addr) (fc : Nat) (va : Option Addr) (vc : Nat) (w : World) (hn : m.vl.length ≤ 9223372036854775807) :
    Calls Tryd.prog 46 #[m.val fa fc va vc] w fun e w' => e = .returned (cdV (chkE m)) ∧ Below w.heap.size w w' := by
  unfold Mg.val
  have HC : Hid (chkE m = if m.pub < 0 ∨ 32 ≤ m.pub ∨ m.seq < 1 ∨ 1073741824 < m.seq ∨ m.hops < 0 ∨ 65 < m.hops then 1 else if 4 < m.vl.length then 11 else 0) := (rfl : chkE m = _)
  generalize chkE m = c at *
  obtain ⟨k, g, a, fl, pub, seq, hops, vl, pay⟩ := m
  simp only at *
  generalize fl.length = fn at *
  generalize vl.length = n at *
  by_cases hb : pub < 0 ∨ 32 ≤ pub ∨ seq < 1 ∨ 1073741824 < seq ∨ hops < 0 ∨ 65 < hops
  · have hc : c = 1 := by rw [HC.out, if_pos hb]
    subst hc
    clear HC
    have hcase : pub < 0 ∨ (¬ pub < 0 ∧ 32 ≤ pub) ∨ (¬ pub < 0 ∧ ¬ 32 ≤ pub ∧ seq < 1) ∨ (¬ pub < 0 ∧ ¬ 32 ≤ pub ∧ ¬ seq < 1 ∧ 1073741824 < seq) ∨
        (¬ pub < 0 ∧ ¬ 32 ≤ pub ∧ ¬ seq < 1 ∧ ¬ 1073741824 < seq ∧ hops < 0) ∨ (¬ pub < 0 ∧ ¬ 32 ≤ pub ∧ ¬ seq < 1 ∧ ¬ 1073741824 < seq ∧ ¬ hops < 0 ∧ 65 < hops) := by omega
    clear hb
    rcases hcase with h1 | ⟨h1, h2⟩ | ⟨h1, h2, h3⟩ | ⟨h1, h2, h3, h4⟩ | ⟨h1, h2, h3, h4, h5⟩ | ⟨h1, h2, h3, h4, h5, h6⟩
    all_goals
      go_enter Tryd.func46, Tryd.ntmps46
      go_wp2
      go_ret
      exact ⟨rfl, (Below.refl _ _).alloc (Nat.le_refl _) _⟩
  · have h1 : ¬ pub < 0 := by omega
    have h2 : ¬ 32 ≤ pub := by omega
    have h3 : ¬ seq < 1 := by omega
    have h4 : ¬ 1073741824 < seq := by omega
    have h5 : ¬ hops < 0 := by omega
    have h6 : ¬ 65 < hops := by omega
    by_cases h7 : 4 < n
    · have hc : c = 11 := by rw [HC.out, if_neg hb, if_pos h7]
      subst hc
      clear HC hb
      have h8 : (4 : Int) < (n : Int) := by omega
      go_enter Tryd.func46, Tryd.ntmps46
      go_wp2
      go_ret
      exact ⟨rfl, (Below.refl _ _).alloc (Nat.le_refl _) _⟩
    · have hc : c = 0 := by rw [HC.out, if_neg hb, if_neg h7]
      subst hc
      clear HC hb
      have h8 : ¬ (4 : Int) < (n : Int) := by omega
      go_enter Tryd.func46, Tryd.ntmps46
      go_wp2
      go_ret
      exact ⟨rfl, (Below.refl _ _).alloc (Nat.le_refl _) _⟩

theorem beq_t {a b : Int} (h : a = b) : (a == b) = true := beq_iff_eq.2 h
theorem beq_f {a b : Int} (h : ¬ a = b) : (a == b) = false := beq_eq_false_iff_ne.2 h
theorem bne_t {a b : Int} (h : ¬ a = b) : (a != b) = true := bne_iff_ne.2 h
theorem bne_f {a b : Int} (h : a = b) : (a != b) = false := by subst h; simp


set_option maxRecDepth 100000 in
set_option maxHeartbeats 2000000 in
theorem checkK_core (k : Int) (g : ByteArray) (a : Bool) (fa : Option Addr) (fn fc : Nat) (pub seq hops : Int) (va : Option Addr) (n vc : Nat) (pay : ByteArray) (c cE : Nat) (w : World) (hn : n ≤ 9223372036854775807) (hf : fn ≤ 9223372036854775807)
    (hE : ∀ W : World, Calls Tryd.prog 46 #[.agg #[.int .i64 k, .string g, .bool a, .slice fa fn fc, .int .i64 pub, .int .i64 seq, .int .i64 hops, .slice va n vc, .string pay]] W fun e w' => e = .returned (cdV cE) ∧ Below W.heap.size W w')
    (hc : c = if k = 1 then (if (a = true ∧ 0 < fn) ∨ 16 < fn then 11 else if pub ≠ 0 ∨ seq ≠ 0 ∨ 0 < n ∨ 0 < pay.size then 11 else 0)
      else if k = 2 then (if pub ≠ 0 ∨ seq ≠ 0 ∨ 0 < n ∨ 0 < pay.size then 11 else 0)
      else if k = 5 then (if 0 < n ∨ 0 < pay.size then 11 else cE)
      else if k = 3 ∨ k = 4 then cE else 11) :
    Calls Tryd.prog 25 #[.agg #[.int .i64 k, .string g, .bool a, .slice fa fn fc, .int .i64 pub, .int .i64 seq, .int .i64 hops, .slice va n vc, .string pay]] w fun e w' => e = .returned (cdV c) ∧ Below w.heap.size w w' := by
  have b0 : ∀ o, Below w.heap.size w (w.alloc o) := fun o => (Below.refl _ _).alloc (Nat.le_refl _) _
  have hw1 : ∀ o, w.heap.size ≤ (w.alloc o).heap.size := fun o => by simp
  by_cases k1 : k = 1
  · rw [if_pos k1] at hc
    have q1 := beq_t k1
    by_cases ha : (a = true ∧ 0 < fn) ∨ 16 < fn
    · rw [if_pos ha] at hc
      subst hc
      have hcase : (a = true ∧ (0 : Int) < (fn : Int)) ∨ (a = false ∧ (16 : Int) < (fn : Int)) := by
        cases a with
        | true => left; simp at ha; exact ⟨rfl, by omega⟩
        | false => right; simp at ha; exact ⟨rfl, by omega⟩
      clear ha k1
      rcases hcase with ⟨c1, c2⟩ | ⟨c1, c2⟩
      all_goals
        go_enter Tryd.func25, Tryd.ntmps25
        go_wp2
        go_ret
        exact ⟨rfl, b0 _⟩
    · rw [if_neg ha] at hc
      have hcase : (a = true ∧ ¬ (0 : Int) < (fn : Int) ∧ ¬ (16 : Int) < (fn : Int)) ∨ (a = false ∧ ¬ (16 : Int) < (fn : Int)) := by
        cases a with
        | true => left; simp at ha; exact ⟨rfl, by omega, by omega⟩
        | false => right; simp at ha; exact ⟨rfl, by omega⟩
      clear ha k1
      by_cases hp : pub = 0
      · have p1 := bne_f hp
        by_cases hs : seq = 0
        · have p2 := bne_f hs
          cases hd : decide (0 < n ∨ 0 < pay.size) with
          | true =>
            rw [if_pos (.inr (.inr (of_decide_eq_true hd)))] at hc
            subst hc
            clear hp hs
            rcases hcase with ⟨c1, c2, c3⟩ | ⟨c1, c2⟩
            all_goals
              go_enter Tryd.func25, Tryd.ntmps25
              go_wp2_with (go_at_call 45; refine (content_any va n vc pay _ hn).mono ?_; rw [hd]; rintro e w1 ⟨rfl, hb⟩)
              go_ret
              exact ⟨rfl, (b0 _).trans (hb.mono (hw1 _))⟩
          | false =>
            have hd' := of_decide_eq_false hd
            rw [if_neg (by omega)] at hc
            subst hc
            clear hp hs hd'
            rcases hcase with ⟨c1, c2, c3⟩ | ⟨c1, c2⟩
            all_goals
              go_enter Tryd.func25, Tryd.ntmps25
              go_wp2_with (go_at_call 45; refine (content_any va n vc pay _ hn).mono ?_; rw [hd]; rintro e w1 ⟨rfl, hb⟩)
              go_ret
              exact ⟨rfl, (b0 _).trans (hb.mono (hw1 _))⟩
        · have p2 := bne_t hs
          rw [if_pos (.inr (.inl hs))] at hc
          subst hc
          clear hp hs
          rcases hcase with ⟨c1, c2, c3⟩ | ⟨c1, c2⟩
          all_goals
            go_enter Tryd.func25, Tryd.ntmps25
            go_wp2
            go_ret
            exact ⟨rfl, b0 _⟩
      · have p1 := bne_t hp
        rw [if_pos (.inl hp)] at hc
        subst hc
        clear hp
        rcases hcase with ⟨c1, c2, c3⟩ | ⟨c1, c2⟩
        all_goals
          go_enter Tryd.func25, Tryd.ntmps25
          go_wp2
          go_ret
          exact ⟨rfl, b0 _⟩
  rw [if_neg k1] at hc
  have q1 := beq_f k1
  by_cases k2 : k = 2
  · rw [if_pos k2] at hc
    have q2 := beq_t k2
    clear k1 k2
    by_cases hp : pub = 0
    · have p1 := bne_f hp
      by_cases hs : seq = 0
      · have p2 := bne_f hs
        cases hd : decide (0 < n ∨ 0 < pay.size) with
        | true =>
          rw [if_pos (.inr (.inr (of_decide_eq_true hd)))] at hc
          subst hc
          clear hp hs
          skip
          all_goals
            go_enter Tryd.func25, Tryd.ntmps25
            go_wp2_with (go_at_call 45; refine (content_any va n vc pay _ hn).mono ?_; rw [hd]; rintro e w1 ⟨rfl, hb⟩)
            go_ret
            exact ⟨rfl, (b0 _).trans (hb.mono (hw1 _))⟩
        | false =>
          have hd' := of_decide_eq_false hd
          rw [if_neg (by omega)] at hc
          subst hc
          clear hp hs hd'
          skip
          all_goals
            go_enter Tryd.func25, Tryd.ntmps25
            go_wp2_with (go_at_call 45; refine (content_any va n vc pay _ hn).mono ?_; rw [hd]; rintro e w1 ⟨rfl, hb⟩)
            go_ret
            exact ⟨rfl, (b0 _).trans (hb.mono (hw1 _))⟩
      · have p2 := bne_t hs
        rw [if_pos (.inr (.inl hs))] at hc
        subst hc
        clear hp hs
        skip
        all_goals
          go_enter Tryd.func25, Tryd.ntmps25
          go_wp2
          go_ret
          exact ⟨rfl, b0 _⟩
    · have p1 := bne_t hp
      rw [if_pos (.inl hp)] at hc
      subst hc
      clear hp
      skip
      all_goals
        go_enter Tryd.func25, Tryd.ntmps25
        go_wp2
        go_ret
        exact ⟨rfl, b0 _⟩
  rw [if_neg k2] at hc
  have q2 := beq_f k2
  by_cases k5 : k = 5
  · rw [if_pos k5] at hc
    have q5 := beq_t k5
    clear k1 k2 k5
    cases hd : decide (0 < n ∨ 0 < pay.size) with
    | true =>
      rw [if_pos (of_decide_eq_true hd)] at hc
      subst hc
      go_enter Tryd.func25, Tryd.ntmps25
      go_wp2_with (go_at_call 45; refine (content_any va n vc pay _ hn).mono ?_; rw [hd]; rintro e w1 ⟨rfl, hb⟩)
      go_ret
      exact ⟨rfl, (b0 _).trans (hb.mono (hw1 _))⟩
    | false =>
      rw [if_neg (of_decide_eq_false hd)] at hc
      subst hc
      go_enter Tryd.func25, Tryd.ntmps25
      go_wp2_with (first | (go_at_call 45; refine (content_any va n vc pay _ hn).mono ?_; rw [hd]; rintro e w1 ⟨rfl, hb⟩; have hcl := below_cells hb) | (go_at_call 46; refine (hE _).mono ?_; rintro e w2 ⟨rfl, hb2⟩))
      go_ret
      exact ⟨rfl, ((b0 _).trans (hb.mono (hw1 _))).trans (hb2.mono (Nat.le_trans (hw1 _) hb.size))⟩
  rw [if_neg k5] at hc
  have q5 := beq_f k5
  by_cases k34 : k = 3 ∨ k = 4
  · rw [if_pos k34] at hc
    subst hc
    have hcase : (k == 3) = true ∨ ((k == 3) = false ∧ (k == 4) = true) := by
      rcases k34 with h | h
      · exact .inl (beq_t h)
      · exact .inr ⟨beq_f (by omega), beq_t h⟩
    clear k1 k2 k5 k34
    rcases hcase with q3 | ⟨q3, q4⟩
    all_goals
      go_enter Tryd.func25, Tryd.ntmps25
      go_wp2_with (go_at_call 46; refine (hE _).mono ?_; rintro e w2 ⟨rfl, hb2⟩)
      go_ret
      exact ⟨rfl, (b0 _).trans (hb2.mono (hw1 _))⟩
  · rw [if_neg k34] at hc
    subst hc
    have q3 := beq_f (show ¬ k = 3 by omega)
    have q4 := beq_f (show ¬ k = 4 by omega)
    clear k1 k2 k5 k34
    go_enter Tryd.func25, Tryd.ntmps25
    go_wp2
    go_ret
    exact ⟨rfl, b0 _⟩

theorem checkK_any (m : Mg) (fa : Option Addr) (fc : Nat) (va : Option Addr) (vc : Nat) (w : World) (hn : m.vl.length ≤ 9223372036854775807) (hf : m.fl.length ≤ 9223372036854775807) :
    Calls Tryd.prog 25 #[m.val fa fc va vc] w fun e w' => e = .returned (cdV (chkK m)) ∧ Below w.heap.size w w' :=
  checkK_core m.kind m.group m.any fa m.fl.length fc m.pub m.seq m.hops va m.vl.length vc m.pay (chkK m) (chkE m) w hn hf (fun W => checkE_any m fa fc va vc W hn) rfl

set_option maxRecDepth 100000 in
set_option maxHeartbeats 2000000 in
theorem mcheck_core (k : Int) (g : ByteArray) (a : Bool) (fa : Option Addr) (fn fc : Nat) (pub seq hops : Int) (va : Option Addr) (n vc : Nat) (pay : ByteArray) (c cK : Nat) (w : World) (hn : n ≤ 9223372036854775807) (hf : fn ≤ 9223372036854775807)
    (hK : ∀ W : World, Calls Tryd.prog 25 #[.agg #[.int .i64 k, .string g, .bool a, .slice fa fn fc, .int .i64 pub, .int .i64 seq, .int .i64 hops, .slice va n vc, .string pay]] W fun e w' => e = .returned (cdV cK) ∧ Below W.heap.size W w')
    (hg : g.size ≤ 9223372036854775807)
    (hc : c = if g.size < 1 ∨ 40 < g.size then 1 else if (k ≠ 1 ∧ (a = true ∨ 0 < fn)) ∨ (k ≠ 3 ∧ hops ≠ 0) then 11 else cK) :
    Calls Tryd.prog 11 #[.agg #[.int .i64 k, .string g, .bool a, .slice fa fn fc, .int .i64 pub, .int .i64 seq, .int .i64 hops, .slice va n vc, .string pay]] w fun e w' => e = .returned (cdV c) ∧ Below w.heap.size w w' := by
  have b0 : ∀ o, Below w.heap.size w (w.alloc o) := fun o => (Below.refl _ _).alloc (Nat.le_refl _) _
  have hw1 : ∀ o, w.heap.size ≤ (w.alloc o).heap.size := fun o => by simp
  by_cases h1 : g.size < 1 ∨ 40 < g.size
  · rw [if_pos h1] at hc
    subst hc
    have hcase : (g.size : Int) < 1 ∨ (¬ (g.size : Int) < 1 ∧ (40 : Int) < (g.size : Int)) := by omega
    clear h1
    rcases hcase with h1 | ⟨h1, h2⟩
    all_goals
      go_enter Tryd.func11, Tryd.ntmps11
      go_wp2
      go_ret
      exact ⟨rfl, b0 _⟩
  · rw [if_neg h1] at hc
    have g1 : ¬ (g.size : Int) < 1 := by omega
    have g2 : ¬ (40 : Int) < (g.size : Int) := by omega
    by_cases hb : (k ≠ 1 ∧ (a = true ∨ 0 < fn)) ∨ (k ≠ 3 ∧ hops ≠ 0)
    · rw [if_pos hb] at hc
      subst hc
      have hcase : ((k != 1) = true ∧ a = true) ∨ ((k != 1) = true ∧ a = false ∧ (0 : Int) < (fn : Int)) ∨
          ((k != 1) = true ∧ a = false ∧ ¬ (0 : Int) < (fn : Int) ∧ (k != 3) = true ∧ (hops != 0) = true) ∨ ((k != 1) = false ∧ (k != 3) = true ∧ (hops != 0) = true) := by
        by_cases k1 : k = 1
        · right; right; right
          rcases hb with ⟨h, _⟩ | ⟨h, h'⟩
          · exact absurd k1 h
          · exact ⟨bne_f k1, bne_t h, bne_t h'⟩
        · cases a with
          | true => left; exact ⟨bne_t k1, rfl⟩
          | false =>
            by_cases hf0 : 0 < fn
            · right; left; exact ⟨bne_t k1, rfl, by omega⟩
            · right; right; left
              rcases hb with ⟨_, h⟩ | ⟨h, h'⟩
              · simp at h; omega
              · exact ⟨bne_t k1, rfl, by omega, bne_t h, bne_t h'⟩
      clear hb h1
      rcases hcase with ⟨k1, k2⟩ | ⟨k1, k2, k3⟩ | ⟨k1, k2, k3, k4, k5⟩ | ⟨k1, k2, k3⟩
      all_goals
        go_enter Tryd.func11, Tryd.ntmps11
        go_wp2
        go_ret
        exact ⟨rfl, b0 _⟩
    · rw [if_neg hb] at hc
      subst hc
      have hcase : ((k != 1) = false ∧ (k != 3) = true ∧ hops = 0) ∨ ((k != 1) = true ∧ a = false ∧ fn = 0 ∧ (k != 3) = true ∧ hops = 0) ∨
          ((k != 1) = true ∧ a = false ∧ fn = 0 ∧ (k != 3) = false) := by
        have hh : ¬ k = 3 → hops = 0 := fun h3 => by
          by_cases h0 : hops = 0
          · exact h0
          · exact absurd (.inr ⟨h3, h0⟩) hb
        by_cases k1 : k = 1
        · left; exact ⟨bne_f k1, bne_t (by omega), hh (by omega)⟩
        · have h2 : ¬ (a = true ∨ 0 < fn) := fun h => hb (.inl ⟨k1, h⟩)
          have ha : a = false := by cases a <;> simp_all
          have h3 : ¬ 0 < fn := fun h => h2 (.inr h)
          by_cases k3 : k = 3
          · right; right; exact ⟨bne_t k1, ha, by omega, bne_f k3⟩
          · right; left; exact ⟨bne_t k1, ha, by omega, bne_t k3, hh k3⟩
      clear hb h1
      rcases hcase with ⟨k1, k2, rfl⟩ | ⟨k1, rfl, rfl, k4, rfl⟩ | ⟨k1, rfl, rfl, k4⟩
      all_goals
        go_enter Tryd.func11, Tryd.ntmps11
        go_wp2_with (go_at_call 25; refine (hK _).mono ?_; rintro e w2 ⟨rfl, hb2⟩)
        go_ret
        exact ⟨rfl, (b0 _).trans (hb2.mono (hw1 _))⟩

theorem mcheck_any (m : Mg) (fa : Option Addr) (fc : Nat) (va : Option Addr) (vc : Nat) (w : World) (hg : m.group.size ≤ 9223372036854775807) (hn : m.vl.length ≤ 9223372036854775807) (hf : m.fl.length ≤ 9223372036854775807) :
    Calls Tryd.prog 11 #[m.val fa fc va vc] w fun e w' => e = .returned (cdV (chk m)) ∧ Below w.heap.size w w' :=
  mcheck_core m.kind m.group m.any fa m.fl.length fc m.pub m.seq m.hops va m.vl.length vc m.pay (chk m) (chkK m) w hn hf (fun W => checkK_any m fa fc va vc W hn hf) hg rfl
end Go.Proofs.YtakfinccoffplaaDoor
