/- The document's Check of a message. -/
import Derived.Test.YtnikliadfcgjiaaDoorMsSame
import Derived.Deep.CutBlock
import Derived.Deep.DeepCutAuto
namespace Go.Proofs.YtnikliadfcgjiaaDoor
open Go.ChangeShapes Go.WideShapes Go.ChangeAt Go.RowKit
set_option linter.unusedVariables false

set_option maxRecDepth 100000 in
set_option maxHeartbeats 8000000 in
theorem rcheck_core (k : Int) (g : ByteArray) (a : Bool) (fa : Option Addr) (fn fc : Nat) (pub seq hops : Int) (va : Option Addr) (n vc : Nat) (pay : ByteArray) (c : Nat) (w : World) (hn : n ≤ 9223372036854775807) (hf : fn ≤ 9223372036854775807)
    (hg : g.size ≤ 9223372036854775807) (hpy : pay.size ≤ 9223372036854775807)
    (hc : c = if g.size < 1 ∨ 40 < g.size then 1 else if (k ≠ 1 ∧ (a = true ∨ 0 < fn)) ∨ (k ≠ 3 ∧ hops ≠ 0) then 11 else
      if k = 1 then (if (a = true ∧ 0 < fn) ∨ 16 < fn then 11 else if pub ≠ 0 ∨ seq ≠ 0 ∨ 0 < n ∨ 0 < pay.size then 11 else 0)
      else if k = 2 then (if pub ≠ 0 ∨ seq ≠ 0 ∨ 0 < n ∨ 0 < pay.size then 11 else 0)
      else if k = 5 then (if 0 < n ∨ 0 < pay.size then 11 else if pub < 0 ∨ 32 ≤ pub ∨ seq < 1 ∨ 1073741824 < seq ∨ hops < 0 ∨ 65 < hops then 1 else if 4 < n then 11 else 0)
      else if k = 3 ∨ k = 4 then if pub < 0 ∨ 32 ≤ pub ∨ seq < 1 ∨ 1073741824 < seq ∨ hops < 0 ∨ 65 < hops then 1 else if 4 < n then 11 else 0 else 11) :
    Calls Tryd.prog 12 #[.agg #[.int .i64 k, .string g, .bool a, .slice fa fn fc, .int .i64 pub, .int .i64 seq, .int .i64 hops, .slice va n vc, .string pay]] w fun e w' => e = .returned (.int .i64 (c : Int)) ∧ Below w.heap.size w w' := by
  obtain ⟨W1, hW1⟩ : ∃ W1, W1 = w.alloc (.cells #[.int .i64 k, .string g, .bool a, .slice fa fn fc, .int .i64 pub, .int .i64 seq, .int .i64 hops, .slice va n vc, .string pay] 37) := ⟨_, rfl⟩
  have b0 : Below w.heap.size w W1 := by rw [hW1]; exact below1 _ _
  have pB : W1.heap[w.heap.size]? = some (.cells #[.int .i64 k, .string g, .bool a, .slice fa fn fc, .int .i64 pub, .int .i64 seq, .int .i64 hops, .slice va n vc, .string pay] 37 (0, 0)) := by rw [hW1]; exact heap_alloc_new w _
  obtain ⟨x0, x1, x2, x3, x4, x5, x6, x7, x8⟩ := cells9 pB
  have xl := lt_of_block pB
  clear pB
  go_enter Tryd.func12, Tryd.ntmps12
  go_upto_region 1 with fail
  rw [← hW1]
  clear hW1
  by_cases h1 : g.size < 1 ∨ 40 < g.size
  · rw [if_pos h1] at hc
    subst hc
    have hcase : (g.size : Int) < 1 ∨ (¬ (g.size : Int) < 1 ∧ (40 : Int) < (g.size : Int)) := by omega
    clear h1
    rcases hcase with h1 | ⟨h1, h2⟩
    all_goals
      go_wp2
      go_ret
      exact ⟨rfl, b0⟩
  rw [if_neg h1] at hc
  have g1 : ¬ (g.size : Int) < 1 := by omega
  have g2 : ¬ (40 : Int) < (g.size : Int) := by omega
  clear h1
  go_upto_region 3 with fail
  go_cut [3] (fun v wx => v = .bool (decide (0 < n ∨ 0 < pay.size)) ∧ W1 = wx)
  case first =>
    have hcase : (decide (0 < n ∨ 0 < pay.size) = true ∧ (0 : Int) < (n : Int)) ∨ (decide (0 < n ∨ 0 < pay.size) = true ∧ n = 0 ∧ 0 < pay.size) ∨ (decide (0 < n ∨ 0 < pay.size) = false ∧ n = 0 ∧ pay.size = 0) := by
      by_cases q1 : 0 < n
      · exact .inl ⟨decide_eq_true (.inl q1), by omega⟩
      · by_cases q2 : 0 < pay.size
        · exact .inr (.inl ⟨decide_eq_true (.inr q2), by omega, by omega⟩)
        · exact .inr (.inr ⟨decide_eq_false (by omega), by omega, by omega⟩)
    clear hc
    rcases hcase with ⟨hd, q1⟩ | ⟨hd, rfl, q2⟩ | ⟨hd, rfl, q2⟩
    all_goals
      have HD : Hid _ := hd
      clear hd
      go_wp2
      go_meet
      exact ⟨by rw [HD.out], rfl⟩
  case rest =>
    obtain ⟨rfl, hwx⟩ := hcut
    subst hwx
    have HEV : Hid (decide (0 < n ∨ 0 < pay.size) = true ↔ (0 < n ∨ 0 < pay.size)) := decide_eq_true_iff
    generalize decide (0 < n ∨ 0 < pay.size) = ev at *
    by_cases hb : (k ≠ 1 ∧ (a = true ∨ 0 < fn)) ∨ (k ≠ 3 ∧ hops ≠ 0)
    · rw [if_pos hb] at hc
      subst hc
      have hcase : ((k != 1) = true ∧ a = true) ∨ ((k != 1) = true ∧ a = false ∧ (0 : Int) < (fn : Int)) ∨
          ((k != 1) = true ∧ a = false ∧ ¬ (0 : Int) < (fn : Int) ∧ (k != 3) = true ∧ (hops != 0) = true) ∨ ((k != 1) = false ∧ (k != 3) = true ∧ (hops != 0) = true) := by
        by_cases k1 : k = 1
        · right; right; right
          rcases hb with ⟨h, _⟩ | ⟨h, h'⟩
          · exact absurd k1 h
          · exact ⟨bne_f k1, bne_t h, bne_t h'⟩
        · cases a with
          | true => left; exact ⟨bne_t k1, rfl⟩
          | false =>
            by_cases hf0 : 0 < fn
            · right; left; exact ⟨bne_t k1, rfl, by omega⟩
            · right; right; left
              rcases hb with ⟨_, h⟩ | ⟨h, h'⟩
              · simp at h; omega
              · exact ⟨bne_t k1, rfl, by omega, bne_t h, bne_t h'⟩
      clear hb
      rcases hcase with ⟨k1, k2⟩ | ⟨k1, k2, k3⟩ | ⟨k1, k2, k3, k4, k5⟩ | ⟨k1, k2, k3⟩
      all_goals
        go_wp2
        go_ret
        exact ⟨rfl, b0⟩
    rw [if_neg hb] at hc
    have hh : ¬ k = 3 → hops = 0 := fun h3 => by
      by_cases h0 : hops = 0
      · exact h0
      · exact absurd (.inr ⟨h3, h0⟩) hb
    have hcase : ((k != 1) = false ∧ (k != 3) = true ∧ hops = 0) ∨ ((k != 1) = true ∧ a = false ∧ fn = 0 ∧ (k != 3) = true ∧ hops = 0) ∨
        ((k != 1) = true ∧ a = false ∧ fn = 0 ∧ (k != 3) = false) := by
      by_cases k1 : k = 1
      · left; exact ⟨bne_f k1, bne_t (by omega), hh (by omega)⟩
      · have h2 : ¬ (a = true ∨ 0 < fn) := fun h => hb (.inl ⟨k1, h⟩)
        have ha : a = false := by cases a <;> simp_all
        have h3 : ¬ 0 < fn := fun h => h2 (.inr h)
        by_cases k3 : k = 3
        · right; right; exact ⟨bne_t k1, ha, by omega, bne_f k3⟩
        · right; left; exact ⟨bne_t k1, ha, by omega, bne_t k3, hh k3⟩
    clear hb
    go_upto_region 4 with fail
    go_cut [46] (fun v wx => v = .bool false ∧ W1 = wx)
    case first =>
      clear hc hh
      rcases hcase with ⟨k1, k2, rfl⟩ | ⟨k1, rfl, rfl, k4, rfl⟩ | ⟨k1, rfl, rfl, k4⟩
      all_goals
        go_wp2
        go_meet
        exact ⟨rfl, rfl⟩
    case rest =>
      obtain ⟨rfl, hwx⟩ := hcut
      subst hwx
      clear hcase
      by_cases k1 : k = 1
      · rw [if_pos k1] at hc
        have hh0 := hh (by omega)
        have q1 := beq_t k1
        clear hh k1
        by_cases ha : (a = true ∧ 0 < fn) ∨ 16 < fn
        · rw [if_pos ha] at hc
          subst hc
          have hcase : (a = true ∧ (0 : Int) < (fn : Int)) ∨ (a = false ∧ (16 : Int) < (fn : Int)) := by
            cases a with
            | true => left; simp at ha; exact ⟨rfl, by omega⟩
            | false => right; simp at ha; exact ⟨rfl, by omega⟩
          clear ha
          rcases hcase with ⟨c1, c2⟩ | ⟨c1, c2⟩
          all_goals
            go_wp2
            go_ret
            exact ⟨rfl, b0⟩
        · rw [if_neg ha] at hc
          have hcase : (a = true ∧ fn = 0) ∨ (a = false ∧ ¬ (16 : Int) < (fn : Int)) := by
            cases a with
            | true => left; simp at ha; exact ⟨rfl, by omega⟩
            | false => right; simp at ha; exact ⟨rfl, by omega⟩
          clear ha
          go_upto_region 6 with fail
          go_cut [65] (fun v wx => v = .bool false ∧ W1 = wx)
          case first =>
            clear hc hh0
            rcases hcase with ⟨rfl, rfl⟩ | ⟨rfl, c2⟩
            all_goals
              go_wp2
              go_meet
              exact ⟨rfl, rfl⟩
          case rest =>
            obtain ⟨rfl, hwx⟩ := hcut
            subst hwx
            clear hcase
            by_cases hp : pub = 0
            · have p1 := bne_f hp
              by_cases hs : seq = 0
              · have p2 := bne_f hs
                have p3 := bne_f hh0
                cases ev with
                | true =>
                  rw [if_pos (.inr (.inr (HEV.out.1 rfl)))] at hc
                  subst hc
                  clear hp hs hh0
                  go_wp2
                  go_ret
                  exact ⟨rfl, b0⟩
                | false =>
                  have hne : ¬ (0 < n ∨ 0 < pay.size) := fun h => by have := HEV.out.2 h; simp at this
                  rw [if_neg (by omega)] at hc
                  subst hc
                  clear hp hs hh0 hne
                  go_wp2
                  go_ret
                  exact ⟨rfl, b0⟩
              · have p2 := bne_t hs
                rw [if_pos (.inr (.inl hs))] at hc
                subst hc
                clear hp hs hh0
                go_wp2
                go_ret
                exact ⟨rfl, b0⟩
            · have p1 := bne_t hp
              rw [if_pos (.inl hp)] at hc
              subst hc
              clear hp hh0
              go_wp2
              go_ret
              exact ⟨rfl, b0⟩
      rw [if_neg k1] at hc
      have q1 := beq_f k1
      by_cases k2 : k = 2
      · rw [if_pos k2] at hc
        have hh0 := hh (by omega)
        have q2 := beq_t k2
        clear hh k1 k2
        by_cases hp : pub = 0
        · have p1 := bne_f hp
          by_cases hs : seq = 0
          · have p2 := bne_f hs
            have p3 := bne_f hh0
            cases ev with
            | true =>
              rw [if_pos (.inr (.inr (HEV.out.1 rfl)))] at hc
              subst hc
              clear hp hs hh0
              go_wp2
              go_ret
              exact ⟨rfl, b0⟩
            | false =>
              have hne : ¬ (0 < n ∨ 0 < pay.size) := fun h => by have := HEV.out.2 h; simp at this
              rw [if_neg (by omega)] at hc
              subst hc
              clear hp hs hh0 hne
              go_wp2
              go_ret
              exact ⟨rfl, b0⟩
          · have p2 := bne_t hs
            rw [if_pos (.inr (.inl hs))] at hc
            subst hc
            clear hp hs hh0
            go_wp2
            go_ret
            exact ⟨rfl, b0⟩
        · have p1 := bne_t hp
          rw [if_pos (.inl hp)] at hc
          subst hc
          clear hp hh0
          go_wp2
          go_ret
          exact ⟨rfl, b0⟩
      rw [if_neg k2] at hc
      have q2 := beq_f k2
      by_cases k5 : k = 5
      · rw [if_pos k5] at hc
        have q5 := beq_t k5
        have r1 : ¬ k < 3 := by omega
        have r2 : ¬ 5 < k := by omega
        clear hh k1 k2 k5
        cases ev with
        | true =>
          rw [if_pos (HEV.out.1 rfl)] at hc
          subst hc
          go_wp2
          go_ret
          exact ⟨rfl, b0⟩
        | false =>
          have hne : ¬ (0 < n ∨ 0 < pay.size) := fun h => by have := HEV.out.2 h; simp at this
          rw [if_neg hne] at hc
          clear hne
          by_cases hb : pub < 0 ∨ 32 ≤ pub ∨ seq < 1 ∨ 1073741824 < seq ∨ hops < 0 ∨ 65 < hops
          · rw [if_pos hb] at hc
            subst hc
            have hcase : pub < 0 ∨ (¬ pub < 0 ∧ 31 < pub) ∨ (¬ pub < 0 ∧ ¬ 31 < pub ∧ seq < 1) ∨ (¬ pub < 0 ∧ ¬ 31 < pub ∧ ¬ seq < 1 ∧ 1073741824 < seq) ∨
                (¬ pub < 0 ∧ ¬ 31 < pub ∧ ¬ seq < 1 ∧ ¬ 1073741824 < seq ∧ hops < 0) ∨ (¬ pub < 0 ∧ ¬ 31 < pub ∧ ¬ seq < 1 ∧ ¬ 1073741824 < seq ∧ ¬ hops < 0 ∧ 65 < hops) := by omega
            clear hb
            rcases hcase with h1 | ⟨h1, h2⟩ | ⟨h1, h2, h3⟩ | ⟨h1, h2, h3, h4⟩ | ⟨h1, h2, h3, h4, h5⟩ | ⟨h1, h2, h3, h4, h5, h6⟩
            all_goals
              go_wp2
              go_ret
              exact ⟨rfl, b0⟩
          · have h1 : ¬ pub < 0 := by omega
            have h2 : ¬ 31 < pub := by omega
            have h3 : ¬ seq < 1 := by omega
            have h4 : ¬ 1073741824 < seq := by omega
            have h5 : ¬ hops < 0 := by omega
            have h6 : ¬ 65 < hops := by omega
            rw [if_neg hb] at hc
            by_cases h7 : 4 < n
            · rw [if_pos h7] at hc
              subst hc
              clear hb
              have h8 : (4 : Int) < (n : Int) := by omega
              go_wp2
              go_ret
              exact ⟨rfl, b0⟩
            · rw [if_neg h7] at hc
              subst hc
              clear hb
              have h8 : ¬ (4 : Int) < (n : Int) := by omega
              go_wp2
              go_ret
              exact ⟨rfl, b0⟩
      rw [if_neg k5] at hc
      have q5 := beq_f k5
      by_cases k34 : k = 3 ∨ k = 4
      · rw [if_pos k34] at hc
        have r1 : ¬ k < 3 := by omega
        have r2 : ¬ 5 < k := by omega
        clear hh k1 k2 k5 k34
        by_cases hb : pub < 0 ∨ 32 ≤ pub ∨ seq < 1 ∨ 1073741824 < seq ∨ hops < 0 ∨ 65 < hops
        · rw [if_pos hb] at hc
          subst hc
          have hcase : pub < 0 ∨ (¬ pub < 0 ∧ 31 < pub) ∨ (¬ pub < 0 ∧ ¬ 31 < pub ∧ seq < 1) ∨ (¬ pub < 0 ∧ ¬ 31 < pub ∧ ¬ seq < 1 ∧ 1073741824 < seq) ∨
              (¬ pub < 0 ∧ ¬ 31 < pub ∧ ¬ seq < 1 ∧ ¬ 1073741824 < seq ∧ hops < 0) ∨ (¬ pub < 0 ∧ ¬ 31 < pub ∧ ¬ seq < 1 ∧ ¬ 1073741824 < seq ∧ ¬ hops < 0 ∧ 65 < hops) := by omega
          clear hb
          rcases hcase with h1 | ⟨h1, h2⟩ | ⟨h1, h2, h3⟩ | ⟨h1, h2, h3, h4⟩ | ⟨h1, h2, h3, h4, h5⟩ | ⟨h1, h2, h3, h4, h5, h6⟩
          all_goals
            go_wp2
            go_ret
            exact ⟨rfl, b0⟩
        · have h1 : ¬ pub < 0 := by omega
          have h2 : ¬ 31 < pub := by omega
          have h3 : ¬ seq < 1 := by omega
          have h4 : ¬ 1073741824 < seq := by omega
          have h5 : ¬ hops < 0 := by omega
          have h6 : ¬ 65 < hops := by omega
          rw [if_neg hb] at hc
          by_cases h7 : 4 < n
          · rw [if_pos h7] at hc
            subst hc
            clear hb
            have h8 : (4 : Int) < (n : Int) := by omega
            go_wp2
            go_ret
            exact ⟨rfl, b0⟩
          · rw [if_neg h7] at hc
            subst hc
            clear hb
            have h8 : ¬ (4 : Int) < (n : Int) := by omega
            go_wp2
            go_ret
            exact ⟨rfl, b0⟩
      · rw [if_neg k34] at hc
        subst hc
        have hcase : k < 3 ∨ (¬ k < 3 ∧ 5 < k) := by omega
        clear hh k1 k2 k5 k34
        rcases hcase with r1 | ⟨r1, r2⟩
        all_goals
          go_wp2
          go_ret
          exact ⟨rfl, b0⟩

theorem rcheck_any (m : Mg) (fa : Option Addr) (fc : Nat) (va : Option Addr) (vc : Nat) (w : World) (hg : m.group.size ≤ 9223372036854775807) (hp : m.pay.size ≤ 9223372036854775807) (hn : m.vl.length ≤ 9223372036854775807) (hf : m.fl.length ≤ 9223372036854775807) :
    Calls Tryd.prog 12 #[m.val fa fc va vc] w fun e w' => e = .returned (.int .i64 (chk m : Int)) ∧ Below w.heap.size w w' :=
  rcheck_core m.kind m.group m.any fa m.fl.length fc m.pub m.seq m.hops va m.vl.length vc m.pay (chk m) w hn hf hg hp rfl
end Go.Proofs.YtnikliadfcgjiaaDoor
