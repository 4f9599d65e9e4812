/- The document's Check of a message. -/
import Derived.Test.YtakfinccoffplaaDoorMsSame
import Derived.Deep.CutBlock
import Derived.Deep.DeepCutAuto
import Derived.Test.YtakfinccoffplaaDoorRows
import Derived.Test.YtakfinccoffplaaDoorAid
import Derived.Test.YtakfinccoffplaaDoorCut
import Derived.Deep.Slices
import Derived.WalkKit
import Derived.ProofKit
import Derived.OpenShut
import Derived.WalkLawsBesides
import Derived.Outline
import Derived.Test.YtakfinccoffplaaDoorCodeKeep
import Derived.Test.YtakfinccoffplaaDoorCodeAwake
import Derived.Deep.RegionWith
import Derived.Laws.IdiomStrings
import Derived.Deep.RegionLaw
import Derived.Test.YtakfinccoffplaaDoorCodeIs
import Derived.Test.YtakfinccoffplaaDoorCodeRI
import Derived.Test.YtakfinccoffplaaDoorCodeRT
import Derived.Handy
import Derived.Test.YtakfinccoffplaaDoorMsRd1
import Derived.Deep.LoopGhost
set_option linter.unnecessarySimpa false
namespace Go.Proofs.YtakfinccoffplaaDoor
open Go.ChangeShapes Go.WideShapes Go.ChangeAt Go.RowKit
set_option linter.unusedVariables false

set_option maxRecDepth 100000 in
set_option maxHeartbeats 8000000 in
theorem rcheck_core (k : Int) (g : ByteArray) (a : Bool) (fa : Option Addr) (fn fc : Nat) (pub seq hops : Int) (va : Option Addr) (n vc : Nat) (pay : ByteArray) (c : Nat) (w : World) (hn : n ≤ 9223372036854775807) (hf : fn ≤ 9223372036854775807)
    (hg : g.size ≤ 9223372036854775807) (hpy : pay.size ≤ 9223372036854775807)
    (hc : c = if g.size < 1 ∨ 40 < g.size then 1 else if (k ≠ 1 ∧ (a = true ∨ 0 < fn)) ∨ (k ≠ 3 ∧ hops ≠ 0) then 11 else
      if k = 1 then (if (a = true ∧ 0 < fn) ∨ 16 < fn then 11 else if pub ≠ 0 ∨ seq ≠ 0 ∨ 0 < n ∨ 0 < pay.size then 11 else 0)
      else if k = 2 then (if pub ≠ 0 ∨ seq ≠ 0 ∨ 0 < n ∨ 0 < pay.size then 11 else 0)
      else if k = 5 then (if 0 < n ∨ 0 < pay.size then 11 else if pub < 0 ∨ 32 ≤ pub ∨ seq < 1 ∨ 1073741824 < seq ∨ hops < 0 ∨ 65 < hops then 1 else if 4 < n then 11 else 0)
      else if k = 3 ∨ k = 4 then if pub < 0 ∨ 32 ≤ pub ∨ seq < 1 ∨ 1073741824 < seq ∨ hops < 0 ∨ 65 < hops then 1 else if 4 < n then 11 else 0 else 11) :
    Calls Tryd.prog 12 #[.agg #[.int .i64 k, .string g, .bool a, .slice fa fn fc, .int .i64 pub, .int .i64 seq, .int .i64 hops, .slice va n vc, .string pay]] w fun e w' => e = .returned (.int .i64 (c : Int)) ∧ Below w.heap.size w w' := by
  obtain ⟨W1, hW1⟩ : ∃ W1, W1 = w.alloc (.cells #[.int .i64 k, .string g, .bool a, .slice fa fn fc, .int .i64 pub, .int .i64 seq, .int .i64 hops, .slice va n vc, .string pay] 37) := ⟨_, rfl⟩
  have b0 : Below w.heap.size w W1 := by rw [hW1]; exact below1 _ _
  have pB : W1.heap[w.heap.size]? = some (.cells #[.int .i64 k, .string g, .bool a, .slice fa fn fc, .int .i64 pub, .int .i64 seq, .int .i64 hops, .slice va n vc, .string pay] 37 (0, 0)) := by rw [hW1]; exact heap_alloc_new w _
  obtain ⟨x0, x1, x2, x3, x4, x5, x6, x7, x8⟩ := cells9 pB
  have xl := lt_of_block pB
  clear pB
  go_enter Tryd.func12, Tryd.ntmps12
  go_upto_region 1 with fail
  rw [← hW1]
  clear hW1
  by_cases h1 : g.size < 1 ∨ 40 < g.size
  · rw [if_pos h1] at hc
    subst hc
    have hcase : (g.size : Int) < 1 ∨ (¬ (g.size : Int) < 1 ∧ (40 : Int) < (g.size : Int)) := by omega
    clear h1
    rcases hcase with h1 | ⟨h1, h2⟩
    all_goals
      go_wp2
      go_ret
      exact ⟨rfl, b0⟩
  rw [if_neg h1] at hc
  have g1 : ¬ (g.size : Int) < 1 := by omega
  have g2 : ¬ (40 : Int) < (g.size : Int) := by omega
  clear h1
  go_upto_region 3 with fail
  go_cut [3] (fun v wx => v = .bool (decide (0 < n ∨ 0 < pay.size)) ∧ W1 = wx)
  case first =>
    have hcase : (decide (0 < n ∨ 0 < pay.size) = true ∧ (0 : Int) < (n : Int)) ∨ (decide (0 < n ∨ 0 < pay.size) = true ∧ n = 0 ∧ 0 < pay.size) ∨ (decide (0 < n ∨ 0 < pay.size) = false ∧ n = 0 ∧ pay.size = 0) := by
      by_cases q1 : 0 < n
      · exact .inl ⟨decide_eq_true (.inl q1), by omega⟩
      · by_cases q2 : 0 < pay.size
        · exact .inr (.inl ⟨decide_eq_true (.inr q2), by omega, by omega⟩)
        · exact .inr (.inr ⟨decide_eq_false (by omega), by omega, by omega⟩)
    clear hc
    rcases hcase with ⟨hd, q1⟩ | ⟨hd, rfl, q2⟩ | ⟨hd, rfl, q2⟩
    all_goals
      have HD : Hid _ := hd
      clear hd
      go_wp2
      go_meet
      exact ⟨by rw [HD.out], rfl⟩
  case rest =>
    obtain ⟨rfl, hwx⟩ := hcut
    subst hwx
    have HEV : Hid (decide (0 < n ∨ 0 < pay.size) = true ↔ (0 < n ∨ 0 < pay.size)) := decide_eq_true_iff
    generalize decide (0 < n ∨ 0 < pay.size) = ev at *
    by_cases hb : (k ≠ 1 ∧ (a = true ∨ 0 < fn)) ∨ (k ≠ 3 ∧ hops ≠ 0)
    · rw [if_pos hb] at hc
      subst hc
      have hcase : ((k != 1) = true ∧ a = true) ∨ ((k != 1) = true ∧ a = false ∧ (0 : Int) < (fn : Int)) ∨
          ((k != 1) = true ∧ a = false ∧ ¬ (0 : Int) < (fn : Int) ∧ (k != 3) = true ∧ (hops != 0) = true) ∨ ((k != 1) = false ∧ (k != 3) = true ∧ (hops != 0) = true) := by
        by_cases k1 : k = 1
        · right; right; right
          rcases hb with ⟨h, _⟩ | ⟨h, h'⟩
          · exact absurd k1 h
          · exact ⟨bne_f k1, bne_t h, bne_t h'⟩
        · cases a with
          | true => left; exact ⟨bne_t k1, rfl⟩
          | false =>
            by_cases hf0 : 0 < fn
            · right; left; exact ⟨bne_t k1, rfl, by omega⟩
            · right; right; left
              rcases hb with ⟨_, h⟩ | ⟨h, h'⟩
              · simp at h; omega
              · exact ⟨bne_t k1, rfl, by omega, bne_t h, bne_t h'⟩
      clear hb
      rcases hcase with ⟨k1, k2⟩ | ⟨k1, k2, k3⟩ | ⟨k1, k2, k3, k4, k5⟩ | ⟨k1, k2, k3⟩
      all_goals
        go_wp2
        go_ret
        exact ⟨rfl, b0⟩
    rw [if_neg hb] at hc
    have hh : ¬ k = 3 → hops = 0 := fun h3 => by
      by_cases h0 : hops = 0
      · exact h0
      · exact absurd (.inr ⟨h3, h0⟩) hb
    have hcase : ((k != 1) = false ∧ (k != 3) = true ∧ hops = 0) ∨ ((k != 1) = true ∧ a = false ∧ fn = 0 ∧ (k != 3) = true ∧ hops = 0) ∨
        ((k != 1) = true ∧ a = false ∧ fn = 0 ∧ (k != 3) = false) := by
      by_cases k1 : k = 1
      · left; exact ⟨bne_f k1, bne_t (by omega), hh (by omega)⟩
      · have h2 : ¬ (a = true ∨ 0 < fn) := fun h => hb (.inl ⟨k1, h⟩)
        have ha : a = false := by cases a <;> simp_all
        have h3 : ¬ 0 < fn := fun h => h2 (.inr h)
        by_cases k3 : k = 3
        · right; right; exact ⟨bne_t k1, ha, by omega, bne_f k3⟩
        · right; left; exact ⟨bne_t k1, ha, by omega, bne_t k3, hh k3⟩
    clear hb
    go_upto_region 4 with fail
    go_cut [46] (fun v wx => v = .bool false ∧ W1 = wx)
    case first =>
      clear hc hh
      rcases hcase with ⟨k1, k2, rfl⟩ | ⟨k1, rfl, rfl, k4, rfl⟩ | ⟨k1, rfl, rfl, k4⟩
      all_goals
        go_wp2
        go_meet
        exact ⟨rfl, rfl⟩
    case rest =>
      obtain ⟨rfl, hwx⟩ := hcut
      subst hwx
      clear hcase
      by_cases k1 : k = 1
      · rw [if_pos k1] at hc
        have hh0 := hh (by omega)
        have q1 := beq_t k1
        clear hh k1
        by_cases ha : (a = true ∧ 0 < fn) ∨ 16 < fn
        · rw [if_pos ha] at hc
          subst hc
          have hcase : (a = true ∧ (0 : Int) < (fn : Int)) ∨ (a = false ∧ (16 : Int) < (fn : Int)) := by
            cases a with
            | true => left; simp at ha; exact ⟨rfl, by omega⟩
            | false => right; simp at ha; exact ⟨rfl, by omega⟩
          clear ha
          rcases hcase with ⟨c1, c2⟩ | ⟨c1, c2⟩
          all_goals
            go_wp2
            go_ret
            exact ⟨rfl, b0⟩
        · rw [if_neg ha] at hc
          have hcase : (a = true ∧ fn = 0) ∨ (a = false ∧ ¬ (16 : Int) < (fn : Int)) := by
            cases a with
            | true => left; simp at ha; exact ⟨rfl, by omega⟩
            | false => right; simp at ha; exact ⟨rfl, by omega⟩
          clear ha
          go_upto_region 6 with fail
          go_cut [65] (fun v wx => v = .bool false ∧ W1 = wx)
          case first =>
            clear hc hh0
            rcases hcase with ⟨rfl, rfl⟩ | ⟨rfl, c2⟩
            all_goals
              go_wp2
              go_meet
              exact ⟨rfl, rfl⟩
          case rest =>
            obtain ⟨rfl, hwx⟩ := hcut
            subst hwx
            clear hcase
            by_cases hp : pub = 0
            · have p1 := bne_f hp
              by_cases hs : seq = 0
              · have p2 := bne_f hs
                have p3 := bne_f hh0
                cases ev with
                | true =>
                  rw [if_pos (.inr (.inr (HEV.out.1 rfl)))] at hc
                  subst hc
                  clear hp hs hh0
                  go_wp2
                  go_ret
                  exact ⟨rfl, b0⟩
                | false =>
                  have hne : ¬ (0 < n ∨ 0 < pay.size) := fun h => by have := HEV.out.2 h; simp at this
                  rw [if_neg (by omega)] at hc
                  subst hc
                  clear hp hs hh0 hne
                  go_wp2
                  go_ret
                  exact ⟨rfl, b0⟩
              · have p2 := bne_t hs
                rw [if_pos (.inr (.inl hs))] at hc
                subst hc
                clear hp hs hh0
                go_wp2
                go_ret
                exact ⟨rfl, b0⟩
            · have p1 := bne_t hp
              rw [if_pos (.inl hp)] at hc
              subst hc
              clear hp hh0
              go_wp2
              go_ret
              exact ⟨rfl, b0⟩
      rw [if_neg k1] at hc
      have q1 := beq_f k1
      by_cases k2 : k = 2
      · rw [if_pos k2] at hc
        have hh0 := hh (by omega)
        have q2 := beq_t k2
        clear hh k1 k2
        by_cases hp : pub = 0
        · have p1 := bne_f hp
          by_cases hs : seq = 0
          · have p2 := bne_f hs
            have p3 := bne_f hh0
            cases ev with
            | true =>
              rw [if_pos (.inr (.inr (HEV.out.1 rfl)))] at hc
              subst hc
              clear hp hs hh0
              go_wp2
              go_ret
              exact ⟨rfl, b0⟩
            | false =>
              have hne : ¬ (0 < n ∨ 0 < pay.size) := fun h => by have := HEV.out.2 h; simp at this
              rw [if_neg (by omega)] at hc
              subst hc
              clear hp hs hh0 hne
              go_wp2
              go_ret
              exact ⟨rfl, b0⟩
          · have p2 := bne_t hs
            rw [if_pos (.inr (.inl hs))] at hc
            subst hc
            clear hp hs hh0
            go_wp2
            go_ret
            exact ⟨rfl, b0⟩
        · have p1 := bne_t hp
          rw [if_pos (.inl hp)] at hc
          subst hc
          clear hp hh0
          go_wp2
          go_ret
          exact ⟨rfl, b0⟩
      rw [if_neg k2] at hc
      have q2 := beq_f k2
      by_cases k5 : k = 5
      · rw [if_pos k5] at hc
        have q5 := beq_t k5
        have r1 : ¬ k < 3 := by omega
        have r2 : ¬ 5 < k := by omega
        clear hh k1 k2 k5
        cases ev with
        | true =>
          rw [if_pos (HEV.out.1 rfl)] at hc
          subst hc
          go_wp2
          go_ret
          exact ⟨rfl, b0⟩
        | false =>
          have hne : ¬ (0 < n ∨ 0 < pay.size) := fun h => by have := HEV.out.2 h; simp at this
          rw [if_neg hne] at hc
          clear hne
          by_cases hb : pub < 0 ∨ 32 ≤ pub ∨ seq < 1 ∨ 1073741824 < seq ∨ hops < 0 ∨ 65 < hops
          · rw [if_pos hb] at hc
            subst hc
            have hcase : pub < 0 ∨ (¬ pub < 0 ∧ 31 < pub) ∨ (¬ pub < 0 ∧ ¬ 31 < pub ∧ seq < 1) ∨ (¬ pub < 0 ∧ ¬ 31 < pub ∧ ¬ seq < 1 ∧ 1073741824 < seq) ∨
                (¬ pub < 0 ∧ ¬ 31 < pub ∧ ¬ seq < 1 ∧ ¬ 1073741824 < seq ∧ hops < 0) ∨ (¬ pub < 0 ∧ ¬ 31 < pub ∧ ¬ seq < 1 ∧ ¬ 1073741824 < seq ∧ ¬ hops < 0 ∧ 65 < hops) := by omega
            clear hb
            rcases hcase with h1 | ⟨h1, h2⟩ | ⟨h1, h2, h3⟩ | ⟨h1, h2, h3, h4⟩ | ⟨h1, h2, h3, h4, h5⟩ | ⟨h1, h2, h3, h4, h5, h6⟩
            all_goals
              go_wp2
              go_ret
              exact ⟨rfl, b0⟩
          · have h1 : ¬ pub < 0 := by omega
            have h2 : ¬ 31 < pub := by omega
            have h3 : ¬ seq < 1 := by omega
            have h4 : ¬ 1073741824 < seq := by omega
            have h5 : ¬ hops < 0 := by omega
            have h6 : ¬ 65 < hops := by omega
            rw [if_neg hb] at hc
            by_cases h7 : 4 < n
            · rw [if_pos h7] at hc
              subst hc
              clear hb
              have h8 : (4 : Int) < (n : Int) := by omega
              go_wp2
              go_ret
              exact ⟨rfl, b0⟩
            · rw [if_neg h7] at hc
              subst hc
              clear hb
              have h8 : ¬ (4 : Int) < (n : Int) := by omega
              go_wp2
              go_ret
              exact ⟨rfl, b0⟩
      rw [if_neg k5] at hc
      have q5 := beq_f k5
      by_cases k34 : k = 3 ∨ k = 4
      · rw [if_pos k34] at hc
        have r1 : ¬ k < 3 := by omega
        have r2 : ¬ 5 < k := by omega
        clear hh k1 k2 k5 k34
        by_cases hb : pub < 0 ∨ 32 ≤ pub ∨ seq < 1 ∨ 1073741824 < seq ∨ hops < 0 ∨ 65 < hops
        · rw [if_pos hb] at hc
          subst hc
          have hcase : pub < 0 ∨ (¬ pub < 0 ∧ 31 < pub) ∨ (¬ pub < 0 ∧ ¬ 31 < pub ∧ seq < 1) ∨ (¬ pub < 0 ∧ ¬ 31 < pub ∧ ¬ seq < 1 ∧ 1073741824 < seq) ∨
              (¬ pub < 0 ∧ ¬ 31 < pub ∧ ¬ seq < 1 ∧ ¬ 1073741824 < seq ∧ hops < 0) ∨ (¬ pub < 0 ∧ ¬ 31 < pub ∧ ¬ seq < 1 ∧ ¬ 1073741824 < seq ∧ ¬ hops < 0 ∧ 65 < hops) := by omega
          clear hb
          rcases hcase with h1 | ⟨h1, h2⟩ | ⟨h1, h2, h3⟩ | ⟨h1, h2, h3, h4⟩ | ⟨h1, h2, h3, h4, h5⟩ | ⟨h1, h2, h3, h4, h5, h6⟩
          all_goals
            go_wp2
            go_ret
            exact ⟨rfl, b0⟩
        · have h1 : ¬ pub < 0 := by omega
          have h2 : ¬ 31 < pub := by omega
          have h3 : ¬ seq < 1 := by omega
          have h4 : ¬ 1073741824 < seq := by omega
          have h5 : ¬ hops < 0 := by omega
          have h6 : ¬ 65 < hops := by omega
          rw [if_neg hb] at hc
          by_cases h7 : 4 < n
          · rw [if_pos h7] at hc
            subst hc
            clear hb
            have h8 : (4 : Int) < (n : Int) := by omega
            go_wp2
            go_ret
            exact ⟨rfl, b0⟩
          · rw [if_neg h7] at hc
            subst hc
            clear hb
            have h8 : ¬ (4 : Int) < (n : Int) := by omega
            go_wp2
            go_ret
            exact ⟨rfl, b0⟩
      · rw [if_neg k34] at hc
        subst hc
        have hcase : k < 3 ∨ (¬ k < 3 ∧ 5 < k) := by omega
        clear hh k1 k2 k5 k34
        rcases hcase with r1 | ⟨r1, r2⟩
        all_goals
          go_wp2
          go_ret
          exact ⟨rfl, b0⟩

theorem rcheck_any (m : Mg) (fa : Option Addr) (fc : Nat) (va : Option Addr) (vc : Nat) (w : World) (hg : m.group.size ≤ 9223372036854775807) (hp : m.pay.size ≤ 9223372036854775807) (hn : m.vl.length ≤ 9223372036854775807) (hf : m.fl.length ≤ 9223372036854775807) :
    Calls Tryd.prog 12 #[m.val fa fc va vc] w fun e w' => e = .returned (.int .i64 (chk m : Int)) ∧ Below w.heap.size w w' :=
  rcheck_core m.kind m.group m.any fa m.fl.length fc m.pub m.seq m.hops va m.vl.length vc m.pay (chk m) w hn hf hg hp rfl
end Go.Proofs.YtakfinccoffplaaDoor

/- Things (wigwaglaw02.Thing): a slice of them that came in; 'few' copies at most so many, their texts cut. -/
namespace Go.Proofs.YtakfinccoffplaaDoor
open Go.ChangeShapes Go.WideShapes Go.ChangeAt Go.RowKit Go.Deep
set_option linter.unusedVariables false

structure Th where
  kind : Int
  n : Int
  u : Nat
  s : ByteArray

def th0 : Th := ⟨0, 0, 0, ByteArray.empty⟩

/-- A thing as cells. -/
def Th.cells (t : Th) : List Value := [.int .i64 t.kind, .int .i64 t.n, .int .u64 t.u, .string t.s]
/-- What may stand in a thing. -/
def Th.ok (t : Th) : Prop := (-9223372036854775808 ≤ t.kind ∧ t.kind ≤ 9223372036854775807) ∧ (-9223372036854775808 ≤ t.n ∧ t.n ≤ 9223372036854775807) ∧ t.u < 18446744073709551616 ∧ t.s.size ≤ maxLen
/-- The thing with its text cut. -/
def Th.cut (t : Th) (n : Nat) : Th := { t with s := Go.Proofs.YtakfinccoffplaaDoor.cut t.s n }

/-- The things ts lie at the address, one behind the other. -/
structure ThAt (w : World) (b off len : Nat) (ts : List Th) : Prop where
  lenEq : ts.length = len
  c0 : ∀ j, j < len → w.cell? ⟨b, off + j * 4, none⟩ = some (.int .i64 (ts.getD j th0).kind)
  c1 : ∀ j, j < len → w.cell? ⟨b, off + j * 4 + 1, none⟩ = some (.int .i64 (ts.getD j th0).n)
  c2 : ∀ j, j < len → w.cell? ⟨b, off + j * 4 + 2, none⟩ = some (.int .u64 (ts.getD j th0).u)
  c3 : ∀ j, j < len → w.cell? ⟨b, off + j * 4 + 3, none⟩ = some (.string (ts.getD j th0).s)
  ok : ∀ t ∈ ts, t.ok

theorem take_snocT (ts : List Th) (k : Nat) (h : k < ts.length) : ts.take (k + 1) = ts.take k ++ [ts.getD k th0] := by
  rw [List.take_succ_eq_append_getElem h]; simp [List.getD, h]

def fewCells (ts : List Th) (k : Nat) : List Value := (ts.take k).flatMap fun t => (t.cut 200).cells

/-- A slice of things that came in. -/
def IsThings (w : World) (a : Option Addr) (len cap : Nat) (ts : List Th) : Prop :=
  (len = 0 ∧ ts = []) ∨ ∃ b off, a = some ⟨b, off, none⟩ ∧ 0 < len ∧ len ≤ maxLen ∧ b < w.heap.size ∧ ThAt w b off len ts

end Go.Proofs.YtakfinccoffplaaDoor

/- What wigwaglaw02.put and write do: a thing's bytes are written, or told by the document. -/
namespace Go.Proofs.YtakfinccoffplaaDoor
open Go.ChangeShapes Go.WideShapes Go.ChangeAt Go.RowKit
set_option linter.unusedVariables false

/-- A thing's bytes. -/
def Th.bytes (t : Th) : List UInt8 :=
  if t.kind = 1 then numB t.u else if t.kind = 2 ∨ t.kind = 4 then numB (zig t.n) else if t.kind = 3 then numB t.s.size ++ t.s.data.toList else []

theorem Kept.alloc (w : World) (o : Obj) (p : Nat) (v : Value) : Kept w (w.alloc o) p v v :=
  ⟨rfl, rfl, rfl, by simp, fun k hk _ _ => Below.heap_alloc w o k hk, fun k hk => .inl hk⟩

theorem Th.bytes_len (t : Th) (h : t.ok) (hs : t.s.size ≤ 200) : t.bytes.length ≤ 210 := by
  unfold Th.bytes
  obtain ⟨_, hn, hu, _⟩ := h
  have h1 := numB_len10 t.u hu
  have h2 := numB_len10 (zig t.n) (zig_lt t.n hn.1 hn.2)
  have h3 := numB_len10 t.s.size (by omega)
  split
  · omega
  · split
    · omega
    · split
      · simp; omega
      · simp

end Go.Proofs.YtakfinccoffplaaDoor

/- The document's bytes (wigwagref02.Number, Int, Text; wigwaglaw02.write) are the same plain lists. -/
namespace Go.Proofs.YtakfinccoffplaaDoor
open Go.ChangeShapes Go.WideShapes Go.ChangeAt Go.RowKit
set_option linter.unusedVariables false

theorem conv_one (W : World) (b : Nat) (x : Int) (c : UInt8) (hx : x = (c.toNat : Int)) (h : W.cell? ⟨b, 0, none⟩ = some (.int .u8 x)) :
    (convert 57 9 (.slice (some ⟨b, 0, none⟩) 1 1)).run Tryd.prog W = .ok (.string ⟨#[c]⟩) W := by
  subst hx
  exact run_convert_bytes_back (P := Tryd.prog) W 57 9 5 ⟨b, 0, none⟩ 1 [c] Tryd.underlying57 Tryd.underlying5 Tryd.underlying9 (fun j hj => by
    have hj0 : j = 0 := by simpa using hj
    subst hj0
    simpa [Addr.add] using h)

theorem bcell {W w1 : World} (hb : Below W.heap.size W w1) : (∀ b o, b < W.heap.size → w1.cell? ⟨b, o, none⟩ = W.cell? ⟨b, o, none⟩) ∧ (∀ b o, b < W.heap.size → w1.frozen? ⟨b, o, none⟩ = W.frozen? ⟨b, o, none⟩) :=
  ⟨fun b o h => hb.cell (p := ⟨b, o, none⟩) h, fun b o h => hb.frozen (p := ⟨b, o, none⟩) h⟩

theorem below_a {w w1 : World} {o : Obj} (h : Below (w.alloc o).drew.heap.size (w.alloc o).drew w1) : Below w.heap.size w w1 :=
  ((Below.refl _ _).alloc (Nat.le_refl _) o).drew.trans (h.mono (by show w.heap.size ≤ (w.alloc o).heap.size; simp))
theorem below_b {w w1 : World} (h : Below w.drew.heap.size w.drew w1) (o : Obj) : Below w.heap.size w (w1.alloc o) :=
  ((Below.refl _ _).drew.trans h).alloc (show w.heap.size ≤ w1.heap.size from h.size) o
theorem str_append (a b : List UInt8) : (ByteArray.mk a.toArray) ++ (ByteArray.mk b.toArray) = ⟨(a ++ b).toArray⟩ := by
  apply bytes_inj; simp

theorem ref_small (n : Nat) (w : World) (hn : n < 128) :
    Calls Tryd.prog 52 #[.int .u64 n] w fun e w' => e = .returned (.string ⟨(numB n).toArray⟩) ∧ Below w.heap.size w w' := by
  have HB : Hid (numB n = [UInt8.ofNat n]) := numB_small n hn
  obtain ⟨c, hc⟩ : ∃ c, c = UInt8.ofNat n := ⟨_, rfl⟩
  have hcv := conv_one (w.alloc (.cells #[.int .u8 (n : Int)] 5)) w.heap.size n c (by rw [hc, ofNat_toNat n (by omega)]) (by simp)
  have HC : Hid (c = UInt8.ofNat n) := hc
  clear hc
  have hni : (n : Int) < 128 := by omega
  go_enter Tryd.func52, Tryd.ntmps52
  go_wp2
  go_ret
  exact ⟨ret_s (by rw [HB.out, HC.out]), (Below.refl _ _).alloc (Nat.le_refl _) _⟩

theorem ref_number (n : Nat) (w : World) (hn : n < 18446744073709551616) :
    Calls Tryd.prog 52 #[.int .u64 n] w fun e w' => e = .returned (.string ⟨(numB n).toArray⟩) ∧ Below w.heap.size w w' := by
  induction n using Nat.strongRecOn generalizing w with
  | _ n ih =>
    by_cases hs : n < 128
    · exact ref_small n w hs
    · have ih' : Hid (∀ w, Calls Tryd.prog 52 #[.int .u64 (IntKind.u64.wrap ((n : Int) / 128))] w fun e w' => e = .returned (.string ⟨(numB (n / 128)).toArray⟩) ∧ Below w.heap.size w w') := fun w => by
        have e : IntKind.u64.wrap ((n : Int) / 128) = ((n / 128 : Nat) : Int) := by rw [IntWalk.u64_in _ ⟨by omega, by omega⟩]; omega
        rw [e]; exact ih (n / 128) (by omega) w (by omega)
      clear ih
      obtain ⟨c, hc⟩ : ∃ c, c = UInt8.ofNat (n % 128 + 128) := ⟨_, rfl⟩
      have HB : Hid (numB n = c :: numB (n / 128)) := (by rw [hc]; exact numB_big n hs : numB n = c :: numB (n / 128))
      have hcv : ∀ (W : World) (b : Nat), W.cell? ⟨b, 0, none⟩ = some (.int .u8 (IntKind.u8.wrap (IntKind.u64.wrap (128 + (n : Int).tmod 128)))) → (convert 57 9 (.slice (some ⟨b, 0, none⟩) 1 1)).run Tryd.prog W = .ok (.string ⟨#[c]⟩) W :=
        fun W b h => conv_one W b _ c (by rw [hc, ofNat_toNat _ (by omega), IntKind.wrap_u64, IntKind.wrap_u8, Int.tmod_eq_emod_of_nonneg (by omega)]; omega) h
      clear hc
      have h10 := numB_len10 (n / 128) (by omega)
      have hni : ¬ (n : Int) < 128 := by omega
      have hn1 : (n : Int) ≤ 18446744073709551615 := by omega
      go_enter Tryd.func52, Tryd.ntmps52
      go_wp2_with fail
      go_region_with (first | (go_at_call 52; refine (ih'.out _).mono ?_; rintro e w1 ⟨rfl, hb1⟩; obtain ⟨hc1, hf1⟩ := bcell hb1))
      all_goals (try go_wp2)
      all_goals go_ret
      all_goals exact ⟨ret_s (by rw [HB.out]; exact str_append [c] (numB (n / 128))), by first | exact below_a hb1 | exact below_b hb1 _⟩

theorem ref_number_int (x : Int) (n : Nat) (w : World) (hx : x = n) (hn : n < 18446744073709551616) :
    Calls Tryd.prog 52 #[.int .u64 x] w fun e w' => e = .returned (.string ⟨(numB n).toArray⟩) ∧ Below w.heap.size w w' := by
  subst hx; exact ref_number n w hn

theorem ref_int (n : Int) (w : World) (h0 : -9223372036854775808 ≤ n) (h1 : n ≤ 9223372036854775807) :
    Calls Tryd.prog 39 #[.int .i64 n] w fun e w' => e = .returned (.string ⟨(numB (zig n)).toArray⟩) ∧ Below w.heap.size w w' := by
  have hz := zig_lt n h0 h1
  by_cases hn : 0 ≤ n
  · have hzz : Hid (zig n = (2 * n).toNat) := (by rw [zig, if_pos hn] : zig n = (2 * n).toNat)
    go_enter Tryd.func39, Tryd.ntmps39
    go_wp2_with fail
    refine (ref_number_int _ (zig n) _ ?_ hz).mono ?_
    · rw [hzz.out]; omega
    rintro e w' ⟨rfl, hb⟩
    go_wp2
    go_ret
    exact ⟨rfl, hb⟩
  · have hzz : Hid (zig n = (-2 * n - 1).toNat) := (by rw [zig, if_neg hn] : zig n = (-2 * n - 1).toNat)
    go_enter Tryd.func39, Tryd.ntmps39
    go_wp2_with fail
    refine (ref_number_int _ (zig n) _ ?_ hz).mono ?_
    · rw [hzz.out]; omega
    rintro e w' ⟨rfl, hb⟩
    go_wp2
    go_ret
    exact ⟨rfl, hb⟩

theorem ref_text (s : ByteArray) (w : World) (hs : s.size ≤ 1000000) :
    Calls Tryd.prog 40 #[.string s] w fun e w' => e = .returned (.string ⟨(numB s.size ++ s.data.toList).toArray⟩) ∧ Below w.heap.size w w' := by
  have h10 := numB_len10 s.size (by omega)
  go_enter Tryd.func40, Tryd.ntmps40
  go_wp2_with fail
  refine (ref_number_int _ s.size _ rfl (by omega)).mono ?_
  rintro e w' ⟨rfl, hb⟩
  go_wp2
  all_goals go_ret
  all_goals exact ⟨ret_s (str_append (numB s.size) s.data.toList), hb⟩

end Go.Proofs.YtakfinccoffplaaDoor

/- The document's bytes of a message. -/
namespace Go.Proofs.YtakfinccoffplaaDoor
open Go.ChangeShapes Go.WideShapes Go.ChangeAt Go.RowKit
set_option linter.unusedVariables false

/-- Bytes as a text. -/
def bs (l : List UInt8) : ByteArray := ⟨l.toArray⟩
theorem bs_app (a b : List UInt8) : bs a ++ bs b = bs (a ++ b) := str_append a b
theorem bs_size (l : List UInt8) : (bs l).size = l.length := ba_size l
theorem rint (n : Int) (w : World) (h : i64 n) : Calls Tryd.prog 39 #[.int .i64 n] w fun e w' => e = .returned (.string (bs (intB n))) ∧ Below w.heap.size w w' := ref_int n w h.1 h.2
theorem rtext (s : ByteArray) (w : World) (hs : s.size ≤ 1000000) : Calls Tryd.prog 40 #[.string s] w fun e w' => e = .returned (.string (bs (txtB s))) ∧ Below w.heap.size w w' := ref_text s w hs
theorem bsum (a b : List UInt8) (h : a.length + b.length ≤ 9223372036854775807) : (9223372036854775807 < (bs a).size + (bs b).size) = False := eq_false (by rw [bs_size, bs_size]; omega)
theorem bsum3 (a b c : List UInt8) (h : a.length + b.length + c.length ≤ 9223372036854775807) : (9223372036854775807 < (bs a).size + ((bs b).size + (bs c).size)) = False := eq_false (by rw [bs_size, bs_size, bs_size]; omega)
theorem int_len (n : Int) (h : i64 n) : (intB n).length ≤ 10 := numB_len10 _ (zig_lt _ h.1 h.2)

set_option maxRecDepth 100000 in
set_option maxHeartbeats 8000000 in
theorem rmtext_any (m : Mg) (fa : Option Addr) (fc : Nat) (va : Option Addr) (vc : Nat) (w : World) (hf : InRow 1 encS okS ByteArray.empty w fa m.fl.length m.fl) (hv : InRow 2 Vl.cells Vl.ok vl0 w va m.vl.length m.vl)
    (hc : chk m = 0) (hl : (m.fl.flatMap txtB).length + (m.vl.flatMap vlB).length + (txtB m.pay).length ≤ 700000) :
    Calls Tryd.prog 23 #[m.val fa fc va vc] w fun e w' => e = .returned (.string (bs (mB m))) ∧ Below w.heap.size w w' := by
  have hvn := hv.2.1
  have hfn := hf.2.1
  obtain ⟨g1, g2⟩ := chk_group hc
  obtain ⟨s1, s2, hK⟩ := chk_shape hc
  have hk := chk_kind hK
  have hE : m.kind = 5 ∨ m.kind = 3 ∨ m.kind = 4 → i64 m.pub ∧ i64 m.seq ∧ i64 m.hops := fun h => by
    have : chkE m = 0 := by
      unfold chkK at hK
      rw [if_neg (by omega), if_neg (by omega)] at hK
      split at hK
      · split at hK
        · omega
        · exact hK
      · rw [if_pos (by omega)] at hK; exact hK
    obtain ⟨q1, q2, q3, q4, q5, q6, q7⟩ := chkE_zero this
    exact ⟨i64_small _ (by omega) (by omega), i64_small _ (by omega) (by omega), i64_small _ (by omega) (by omega)⟩
  have hki : i64 m.kind := i64_small _ (by omega) (by omega)
  clear s1 s2 hK hc
  unfold Mg.val
  obtain ⟨W1, hW1⟩ : ∃ W1, W1 = w.alloc (.cells #[.int .i64 m.kind, .string m.group, .bool m.any, .slice fa m.fl.length fc, .int .i64 m.pub, .int .i64 m.seq, .int .i64 m.hops, .slice va m.vl.length vc, .string m.pay] 37) := ⟨_, rfl⟩
  have b0 : Below w.heap.size w W1 := by rw [hW1]; exact below1 _ _
  have pB : W1.heap[w.heap.size]? = some (.cells #[.int .i64 m.kind, .string m.group, .bool m.any, .slice fa m.fl.length fc, .int .i64 m.pub, .int .i64 m.seq, .int .i64 m.hops, .slice va m.vl.length vc, .string m.pay] 37 (0, 0)) := by rw [hW1]; exact heap_alloc_new w _
  obtain ⟨x0, x1, x2, x3, x4, x5, x6, x7, x8⟩ := cells9 pB
  have xl := lt_of_block pB
  have HF : Hid (InRow 1 encS okS ByteArray.empty W1 fa m.fl.length m.fl ∧ InRow 2 Vl.cells Vl.ok vl0 W1 va m.vl.length m.vl) := ⟨hf.below (Nat.le_refl _) b0, hv.below (Nat.le_refl _) b0⟩
  clear pB hf hv
  have lk := int_len m.kind hki
  have lg := txt_bound m.group 40 g2 (by omega)
  have z1 := bsum (intB m.kind) (txtB m.group) (by omega)
  have hlf : (m.fl.flatMap txtB).length ≤ 700000 := by omega
  have hlv : (m.vl.flatMap vlB).length ≤ 700000 := by omega
  have hlp : (txtB m.pay).length ≤ 700000 := by omega
  clear hl
  go_enter Tryd.func23, Tryd.ntmps23
  go_upto_region 1 with fail
  rw [← hW1]
  clear hW1
  go_upto_region 1 with fail
  go_cut [3] (fun v wx => v = .string (bs (intB m.kind ++ txtB m.group)) ∧ Hid (Below W1.heap.size W1 wx))
  case first =>
    go_region_law
      (first
        | (go_simp; go_at_call 40; refine Calls.mono (rtext m.group _ (by omega)) ?_; rintro e v2 ⟨rfl, hbB⟩)
        | (go_simp; go_at_call 39; refine Calls.mono (rint m.kind _ hki) ?_; rintro e v1 ⟨rfl, hbA⟩; have hbA' : Below W1.heap.size W1 v1 := ⟨hbA.os, hbA.tape, hbA.output, hbA.size, hbA.block⟩; have cA := below_cells hbA'; have lA := hbA'.size))
    all_goals (try go_wp2_with fail)
    all_goals go_meet
    all_goals exact ⟨by rw [bs_app], hbA'.trans (hbB.mono hbA'.size)⟩
  case rest =>
    obtain ⟨rfl, HX⟩ := hcut
    rename World => w2
    have e2 := below_cells HX.out
    have l2 := HX.out.size
    have xl2 : w.heap.size < w2.heap.size := by omega
    obtain ⟨L, hL⟩ : ∃ L, L = intB m.kind ++ txtB m.group := ⟨_, rfl⟩
    rw [← hL]
    have hLl : L.length ≤ 100 := by rw [hL]; simp; omega
    have HM : Hid (mB m = L ++ tlB m) := (by rw [hL]; unfold mB; simp : mB m = L ++ tlB m)
    clear hL z1 lk lg
    have b2 := b0.trans (HX.out.mono b0.size)
    rcases hk with hk | hk | hk | hk | hk
    · have q1 := beq_t hk
      have HT : Hid (tlB m = if m.any = true then intB (-1) else intB m.fl.length ++ m.fl.flatMap txtB) := (by unfold tlB; rw [if_pos hk] : tlB m = _)
      clear hk hE
      have h1 := HF.out.1
      cases ha : m.any with
      | true =>
        rw [ha, if_pos rfl] at HT
        rw [ha] at x2
        have zz := bsum L (intB (-1)) (by have := int_len (-1) (i64_small _ (by omega) (by omega)); omega)
        go_wp2_with fail
        refine (rint (-1) _ (i64_small _ (by omega) (by omega))).mono ?_
        rintro e w3 ⟨rfl, hb3⟩
        go_wp2
        go_ret
        exact ⟨ret_s (by rw [HM.out, HT.out, bs_app]), b2.trans (hb3.mono b2.size)⟩
      | false =>
        rw [ha, if_neg (by simp)] at HT
        rw [ha] at x2
        have hnl : i64 (m.fl.length : Int) := by unfold i64; omega
        have ln := int_len _ hnl
        have zz := bsum L (intB m.fl.length) (by omega)
        go_wp2_with fail
        refine (rint m.fl.length _ hnl).mono ?_
        rintro e w3 ⟨rfl, hb3⟩
        have e3 := below_cells hb3
        have b3 := b2.trans (hb3.mono b2.size)
        have H13 : Hid (Below W1.heap.size W1 w3) := HX.out.trans (hb3.mono HX.out.size)
        have hs3 := hb3.size
        obtain ⟨Q, hQ⟩ : ∃ Q, L ++ intB m.fl.length = Q := ⟨_, rfl⟩
        have hQl : Q.length ≤ 200 := by rw [← hQ]; simp; omega
        have HQ : Hid (L ++ intB m.fl.length = Q) := hQ
        clear hQ
        go_wp2
        go_loopw [3, 32] (fun sx x wr => ∃ i : Nat, x = .int .i64 i ∧ i ≤ m.fl.length ∧ sx = .string (bs (Q ++ (m.fl.take i).flatMap txtB)) ∧ Hid (Below W1.heap.size W1 wr)) (fun _ x _ => m.fl.length - (intOf x).toNat)
        case atStart => exact ⟨0, rfl, Nat.zero_le _, by rw [bs_app, HQ.out]; simp, H13⟩
        case round =>
          obtain ⟨i, rfl, hi, rfl, R⟩ := hrel
          by_cases hlt : i < m.fl.length
          · obtain ⟨b, o, rfl, hb, hok, hcell⟩ := h1.get i hlt
            have HS : Hid ((m.fl.take (i + 1)).flatMap txtB = (m.fl.take i).flatMap txtB ++ txtB (m.fl.getD i ByteArray.empty)) := flat_snocS m.fl i hlt
            have hsz : (m.fl.getD i ByteArray.empty).size ≤ 1000000 ∧ (Q ++ (m.fl.take i).flatMap txtB).length + (txtB (m.fl.getD i ByteArray.empty)).length ≤ 9223372036854775807 := by
              have hm : m.fl.getD i ByteArray.empty ∈ m.fl := by rw [List.getD_eq_getElem?_getD, List.getElem?_eq_getElem hlt]; exact List.getElem_mem _
              have q1 := flat_le txtB m.fl _ hm
              have q2 := txt_len (m.fl.getD i ByteArray.empty)
              have q3 := flat_take_le txtB m.fl i
              refine ⟨by omega, ?_⟩
              simp only [List.length_append]; omega
            generalize m.fl.getD i ByteArray.empty = x at hcell HS hsz hok
            have k0 := hcell 0 (by omega)
            have e0 : wr.cell? ⟨b, o + i * 1 + 0, none⟩ = W1.cell? ⟨b, o + i * 1 + 0, none⟩ := R.out.cell (p := ⟨b, o + i * 1 + 0, none⟩) hb
            rw [← e0] at k0
            simp [encS] at k0
            have zz := bsum _ _ hsz.2
            have hbl : b < wr.heap.size := by have := R.out.size; omega
            clear hcell e0 hok
            go_wp2_with fail
            refine (rtext x _ hsz.1).mono ?_
            rintro e w4 ⟨rfl, hb4⟩
            have HN : Hid (Below W1.heap.size W1 w4) := R.out.trans (hb4.mono R.out.size)
            go_wp2
            go_roundw
            case rel => exact ⟨i + 1, by go_num, hlt, by rw [bs_app, HS.out, List.append_assoc], HN⟩
            case measure => simp [intOf]; omega
          · obtain rfl : i = m.fl.length := by omega
            go_wp2
            go_ret
            refine ⟨ret_s ?_, b0.trans (R.out.mono b0.size)⟩
            rw [HM.out, HT.out, ← HQ.out, List.take_length, List.append_assoc]
    · have q1 := beq_f (show ¬ m.kind = 1 by omega)
      have q2 := beq_t hk
      have HT : Hid (tlB m = []) := (by unfold tlB; rw [if_neg (by omega), if_neg (by omega)] : tlB m = [])
      clear hk hE
      go_wp2
      go_ret
      exact ⟨ret_s (by rw [HM.out, HT.out, List.append_nil]), b2⟩
    · have q1 := beq_f (show ¬ m.kind = 1 by omega)
      have q2 := beq_f (show ¬ m.kind = 2 by omega)
      have q5 := beq_t hk
      obtain ⟨i1, i2, i3⟩ := hE (by omega)
      have d1 := int_len _ i1
      have d2 := int_len _ i2
      have d3 := int_len _ i3
      have zz1 := bsum (intB m.pub) (intB m.seq) (by omega)
      have zz2 := bsum3 L (intB m.pub) (intB m.seq) (by omega)
      have HT : Hid (tlB m = intB m.pub ++ intB m.seq) := (by unfold tlB; rw [if_neg (by omega), if_pos (by omega), if_pos hk, List.append_nil] : tlB m = _)
      clear hk hE
      go_upto_region 14 with fail
      go_cut [3] (fun v wx => v = .string (bs (L ++ (intB m.pub ++ intB m.seq))) ∧ Hid (Below w2.heap.size w2 wx))
      case first =>
        go_region_law
          (first
            | (have hguard := hbA'; clear hguard; go_simp; go_at_call 39; refine Calls.mono (rint m.seq _ i2) ?_; rintro e v2 ⟨rfl, hbB⟩)
            | (go_simp; go_at_call 39; refine Calls.mono (rint m.pub _ i1) ?_; rintro e v1 ⟨rfl, hbA⟩; have hbA' : Below w2.heap.size w2 v1 := ⟨hbA.os, hbA.tape, hbA.output, hbA.size, hbA.block⟩; have cA := below_cells hbA'; have lA := hbA'.size))
        all_goals (try go_wp2_with fail)
        all_goals go_meet
        all_goals exact ⟨by rw [bs_app, bs_app], hbA'.trans (hbB.mono hbA'.size)⟩
      case rest =>
        obtain ⟨rfl, HX3⟩ := hcut
        rename World => w3
        have e3 := below_cells HX3.out
        have l3 := HX3.out.size
        have xl3 : w.heap.size < w3.heap.size := by omega
        go_wp2
        go_ret
        exact ⟨ret_s (by rw [HM.out, HT.out]), b2.trans (HX3.out.mono b2.size)⟩
    · have q1 := beq_f (show ¬ m.kind = 1 by omega)
      have q2 := beq_f (show ¬ m.kind = 2 by omega)
      have q5 := beq_f (show ¬ m.kind = 5 by omega)
      obtain ⟨i1, i2, i3⟩ := hE (by omega)
      have d1 := int_len _ i1
      have d2 := int_len _ i2
      have d3 := int_len _ i3
      have zz1 := bsum (intB m.pub) (intB m.seq) (by omega)
      have zz2 := bsum3 L (intB m.pub) (intB m.seq) (by omega)
      have HT : Hid (tlB m = intB m.pub ++ (intB m.seq ++ (intB m.hops ++ (intB m.vl.length ++ (m.vl.flatMap vlB ++ txtB m.pay))))) := (by unfold tlB; rw [if_neg (by omega), if_pos (by omega), if_neg (by omega)] : tlB m = _)
      clear hk hE
      go_upto_region 14 with fail
      go_cut [3] (fun v wx => v = .string (bs (L ++ (intB m.pub ++ intB m.seq))) ∧ Hid (Below w2.heap.size w2 wx))
      case first =>
        go_region_law
          (first
            | (have hguard := hbA'; clear hguard; go_simp; go_at_call 39; refine Calls.mono (rint m.seq _ i2) ?_; rintro e v2 ⟨rfl, hbB⟩)
            | (go_simp; go_at_call 39; refine Calls.mono (rint m.pub _ i1) ?_; rintro e v1 ⟨rfl, hbA⟩; have hbA' : Below w2.heap.size w2 v1 := ⟨hbA.os, hbA.tape, hbA.output, hbA.size, hbA.block⟩; have cA := below_cells hbA'; have lA := hbA'.size))
        all_goals (try go_wp2_with fail)
        all_goals go_meet
        all_goals exact ⟨by rw [bs_app, bs_app], hbA'.trans (hbB.mono hbA'.size)⟩
      case rest =>
        obtain ⟨rfl, HX3⟩ := hcut
        rename World => w3
        have e3 := below_cells HX3.out
        have l3 := HX3.out.size
        have xl3 : w.heap.size < w3.heap.size := by omega
        have b3 := b2.trans (HX3.out.mono b2.size)
        have hvl : i64 (m.vl.length : Int) := by unfold i64; omega
        have d4 := int_len _ hvl
        obtain ⟨L3, hL3⟩ : ∃ L3, L ++ (intB m.pub ++ intB m.seq) = L3 := ⟨_, rfl⟩
        rw [hL3]
        have hL3l : L3.length ≤ 130 := by rw [← hL3]; simp; omega
        have HL3 : Hid (L ++ (intB m.pub ++ intB m.seq) = L3) := hL3
        clear hL3 zz1 zz2
        have zz1 := bsum (intB m.hops) (intB m.vl.length) (by omega)
        have zz2 := bsum3 L3 (intB m.hops) (intB m.vl.length) (by omega)
        go_upto_region 17 with fail
        go_cut [3] (fun v wx => v = .string (bs (L3 ++ (intB m.hops ++ intB m.vl.length))) ∧ Hid (Below w3.heap.size w3 wx))
        case first =>
          go_region_law
            (first
              | (have hguard := hbA'; clear hguard; go_simp; go_at_call 39; refine Calls.mono (rint m.vl.length _ hvl) ?_; rintro e v2 ⟨rfl, hbB⟩)
              | (go_simp; go_at_call 39; refine Calls.mono (rint m.hops _ i3) ?_; rintro e v1 ⟨rfl, hbA⟩; have hbA' : Below w3.heap.size w3 v1 := ⟨hbA.os, hbA.tape, hbA.output, hbA.size, hbA.block⟩; have cA := below_cells hbA'; have lA := hbA'.size))
          all_goals (try go_wp2_with fail)
          all_goals go_meet
          all_goals exact ⟨by rw [bs_app, bs_app], hbA'.trans (hbB.mono hbA'.size)⟩
        case rest =>
          obtain ⟨rfl, HX4⟩ := hcut
          rename World => w4
          have e4 := below_cells HX4.out
          have l4 := HX4.out.size
          have xl4 : w.heap.size < w4.heap.size := by omega
          have H14 : Hid (Below W1.heap.size W1 w4) := HX.out.trans ((HX3.out.mono HX.out.size).trans (HX4.out.mono (Nat.le_trans HX.out.size HX3.out.size)))
          obtain ⟨Q, hQ⟩ : ∃ Q, L3 ++ (intB m.hops ++ intB m.vl.length) = Q := ⟨_, rfl⟩
          rw [hQ]
          have hQl : Q.length ≤ 200 := by rw [← hQ]; simp; omega
          have HQ : Hid (L3 ++ (intB m.hops ++ intB m.vl.length) = Q) := hQ
          clear hQ zz1 zz2
          have h1 := HF.out.2
          go_wp2
          go_loopw [3, 72] (fun sx x wr => ∃ i : Nat, x = .int .i64 i ∧ i ≤ m.vl.length ∧ sx = .string (bs (Q ++ (m.vl.take i).flatMap vlB)) ∧ Hid (Below W1.heap.size W1 wr)) (fun _ x _ => m.vl.length - (intOf x).toNat)
          case atStart => exact ⟨0, rfl, Nat.zero_le _, by simp, H14⟩
          case round =>
            obtain ⟨i, rfl, hi, rfl, R⟩ := hrel
            by_cases hlt : i < m.vl.length
            · obtain ⟨b, o, rfl, hb, hok, hcell⟩ := h1.get i hlt
              have HS : Hid ((m.vl.take (i + 1)).flatMap vlB = ((m.vl.take i).flatMap vlB ++ intB (m.vl.getD i vl0).num) ++ txtB (m.vl.getD i vl0).str) := flat_snocV m.vl i hlt
              have hsz : (m.vl.getD i vl0).str.size ≤ 1000000 ∧ (Q ++ (m.vl.take i).flatMap vlB).length ≤ 800000 ∧ (txtB (m.vl.getD i vl0).str).length ≤ 800000 := by
                have hm : m.vl.getD i vl0 ∈ m.vl := by rw [List.getD_eq_getElem?_getD, List.getElem?_eq_getElem hlt]; exact List.getElem_mem _
                have q1 := flat_le vlB m.vl _ hm
                have q2 := txt_len (m.vl.getD i vl0).str
                have q3 := flat_take_le vlB m.vl i
                have q6 : (vlB (m.vl.getD i vl0)).length = (intB (m.vl.getD i vl0).num).length + (txtB (m.vl.getD i vl0).str).length := by unfold vlB; simp
                refine ⟨by omega, ?_, by omega⟩
                simp only [List.length_append]; omega
              generalize m.vl.getD i vl0 = x at hcell HS hsz hok
              have e0 : ∀ j, wr.cell? ⟨b, j, none⟩ = W1.cell? ⟨b, j, none⟩ := fun j => R.out.cell (p := ⟨b, j, none⟩) hb
              have k0 := hcell 0 (by omega)
              have k1 := hcell 1 (by omega)
              simp only [Vl.cells, ← e0] at k0 k1
              simp at k0 k1
              have hbl : b < wr.heap.size := by have := R.out.size; omega
              have hnum : i64 x.num := hok.1
              have d5 := int_len _ hnum
              obtain ⟨L5, hL5⟩ : ∃ L5, Q ++ (m.vl.take i).flatMap vlB = L5 := ⟨_, rfl⟩
              rw [hL5] at hsz ⊢
              have HL5 : Hid (Q ++ (m.vl.take i).flatMap vlB = L5) := hL5
              clear hL5
              have zz1 := bsum (intB x.num) (txtB x.str) (by omega)
              have zz2 := bsum3 L5 (intB x.num) (txtB x.str) (by omega)
              obtain ⟨W7, hW7⟩ : ∃ W7, W7 = wr.alloc (.cells #[.int .i64 x.num, .string x.str] 52) := ⟨_, rfl⟩
              have b7 : Below wr.heap.size wr W7 := by rw [hW7]; exact below1 _ _
              have p7 : W7.heap[wr.heap.size]? = some (.cells #[.int .i64 x.num, .string x.str] 52 (0, 0)) := by rw [hW7]; exact heap_alloc_new wr _
              have y0 : W7.cell? ⟨wr.heap.size, 0, none⟩ = some (.int .i64 x.num) := blk_cell (j := 0) p7 (by simp)
              have y1 : W7.cell? ⟨wr.heap.size, 1, none⟩ = some (.string x.str) := blk_cell (j := 1) p7 (by simp)
              have yl := lt_of_block p7
              clear hcell e0 hok p7
              go_upto_region 21 with fail
              rw [← hW7]
              clear hW7 k0 k1
              go_upto_region 21 with fail
              go_region_law
                (first
                  | (go_simp; go_at_call 40; refine Calls.mono (rtext x.str _ hsz.1) ?_; rintro e v2 ⟨rfl, hbB⟩)
                  | (go_simp; go_at_call 39; refine Calls.mono (rint x.num _ hnum) ?_; rintro e v1 ⟨rfl, hbA⟩; have hbA' : Below W7.heap.size W7 v1 := ⟨hbA.os, hbA.tape, hbA.output, hbA.size, hbA.block⟩; have cA := below_cells hbA'; have lA := hbA'.size))
              all_goals
                have HN : Hid (Below W1.heap.size W1 v2) := R.out.trans ((b7.mono R.out.size).trans ((hbA'.trans (hbB.mono hbA'.size)).mono (Nat.le_trans R.out.size b7.size)))
                go_wp2
                go_roundw
                case rel => exact ⟨i + 1, by go_num, hlt, by rw [bs_app, bs_app, HS.out, ← HL5.out]; simp only [List.append_assoc], HN⟩
                case measure => simp [intOf]; omega
            · obtain rfl : i = m.vl.length := by omega
              have y8 : wr.cell? ⟨w.heap.size, 8, none⟩ = some (.string m.pay) := (R.out.cell (p := ⟨w.heap.size, 8, none⟩) xl).trans x8
              have yl : w.heap.size < wr.heap.size := by have := R.out.size; omega
              rw [List.take_length]
              have zz := bsum (Q ++ m.vl.flatMap vlB) (txtB m.pay) (by simp only [List.length_append]; omega)
              go_wp2_with fail
              refine (rtext m.pay _ (by have := txt_len m.pay; omega)).mono ?_
              rintro e w9 ⟨rfl, hb9⟩
              have b9 := b0.trans ((R.out.mono b0.size).trans (hb9.mono (Nat.le_trans b0.size R.out.size)))
              go_wp2
              go_ret
              refine ⟨ret_s ?_, b9⟩
              rw [HM.out, HT.out, bs_app, ← HQ.out, ← HL3.out]
              simp only [List.append_assoc]
    · have q1 := beq_f (show ¬ m.kind = 1 by omega)
      have q2 := beq_f (show ¬ m.kind = 2 by omega)
      have q5 := beq_f (show ¬ m.kind = 5 by omega)
      obtain ⟨i1, i2, i3⟩ := hE (by omega)
      have d1 := int_len _ i1
      have d2 := int_len _ i2
      have d3 := int_len _ i3
      have zz1 := bsum (intB m.pub) (intB m.seq) (by omega)
      have zz2 := bsum3 L (intB m.pub) (intB m.seq) (by omega)
      have HT : Hid (tlB m = intB m.pub ++ (intB m.seq ++ (intB m.hops ++ (intB m.vl.length ++ (m.vl.flatMap vlB ++ txtB m.pay))))) := (by unfold tlB; rw [if_neg (by omega), if_pos (by omega), if_neg (by omega)] : tlB m = _)
      clear hk hE
      go_upto_region 14 with fail
      go_cut [3] (fun v wx => v = .string (bs (L ++ (intB m.pub ++ intB m.seq))) ∧ Hid (Below w2.heap.size w2 wx))
      case first =>
        go_region_law
          (first
            | (have hguard := hbA'; clear hguard; go_simp; go_at_call 39; refine Calls.mono (rint m.seq _ i2) ?_; rintro e v2 ⟨rfl, hbB⟩)
            | (go_simp; go_at_call 39; refine Calls.mono (rint m.pub _ i1) ?_; rintro e v1 ⟨rfl, hbA⟩; have hbA' : Below w2.heap.size w2 v1 := ⟨hbA.os, hbA.tape, hbA.output, hbA.size, hbA.block⟩; have cA := below_cells hbA'; have lA := hbA'.size))
        all_goals (try go_wp2_with fail)
        all_goals go_meet
        all_goals exact ⟨by rw [bs_app, bs_app], hbA'.trans (hbB.mono hbA'.size)⟩
      case rest =>
        obtain ⟨rfl, HX3⟩ := hcut
        rename World => w3
        have e3 := below_cells HX3.out
        have l3 := HX3.out.size
        have xl3 : w.heap.size < w3.heap.size := by omega
        have b3 := b2.trans (HX3.out.mono b2.size)
        have hvl : i64 (m.vl.length : Int) := by unfold i64; omega
        have d4 := int_len _ hvl
        obtain ⟨L3, hL3⟩ : ∃ L3, L ++ (intB m.pub ++ intB m.seq) = L3 := ⟨_, rfl⟩
        rw [hL3]
        have hL3l : L3.length ≤ 130 := by rw [← hL3]; simp; omega
        have HL3 : Hid (L ++ (intB m.pub ++ intB m.seq) = L3) := hL3
        clear hL3 zz1 zz2
        have zz1 := bsum (intB m.hops) (intB m.vl.length) (by omega)
        have zz2 := bsum3 L3 (intB m.hops) (intB m.vl.length) (by omega)
        go_upto_region 17 with fail
        go_cut [3] (fun v wx => v = .string (bs (L3 ++ (intB m.hops ++ intB m.vl.length))) ∧ Hid (Below w3.heap.size w3 wx))
        case first =>
          go_region_law
            (first
              | (have hguard := hbA'; clear hguard; go_simp; go_at_call 39; refine Calls.mono (rint m.vl.length _ hvl) ?_; rintro e v2 ⟨rfl, hbB⟩)
              | (go_simp; go_at_call 39; refine Calls.mono (rint m.hops _ i3) ?_; rintro e v1 ⟨rfl, hbA⟩; have hbA' : Below w3.heap.size w3 v1 := ⟨hbA.os, hbA.tape, hbA.output, hbA.size, hbA.block⟩; have cA := below_cells hbA'; have lA := hbA'.size))
          all_goals (try go_wp2_with fail)
          all_goals go_meet
          all_goals exact ⟨by rw [bs_app, bs_app], hbA'.trans (hbB.mono hbA'.size)⟩
        case rest =>
          obtain ⟨rfl, HX4⟩ := hcut
          rename World => w4
          have e4 := below_cells HX4.out
          have l4 := HX4.out.size
          have xl4 : w.heap.size < w4.heap.size := by omega
          have H14 : Hid (Below W1.heap.size W1 w4) := HX.out.trans ((HX3.out.mono HX.out.size).trans (HX4.out.mono (Nat.le_trans HX.out.size HX3.out.size)))
          obtain ⟨Q, hQ⟩ : ∃ Q, L3 ++ (intB m.hops ++ intB m.vl.length) = Q := ⟨_, rfl⟩
          rw [hQ]
          have hQl : Q.length ≤ 200 := by rw [← hQ]; simp; omega
          have HQ : Hid (L3 ++ (intB m.hops ++ intB m.vl.length) = Q) := hQ
          clear hQ zz1 zz2
          have h1 := HF.out.2
          go_wp2
          go_loopw [3, 72] (fun sx x wr => ∃ i : Nat, x = .int .i64 i ∧ i ≤ m.vl.length ∧ sx = .string (bs (Q ++ (m.vl.take i).flatMap vlB)) ∧ Hid (Below W1.heap.size W1 wr)) (fun _ x _ => m.vl.length - (intOf x).toNat)
          case atStart => exact ⟨0, rfl, Nat.zero_le _, by simp, H14⟩
          case round =>
            obtain ⟨i, rfl, hi, rfl, R⟩ := hrel
            by_cases hlt : i < m.vl.length
            · obtain ⟨b, o, rfl, hb, hok, hcell⟩ := h1.get i hlt
              have HS : Hid ((m.vl.take (i + 1)).flatMap vlB = ((m.vl.take i).flatMap vlB ++ intB (m.vl.getD i vl0).num) ++ txtB (m.vl.getD i vl0).str) := flat_snocV m.vl i hlt
              have hsz : (m.vl.getD i vl0).str.size ≤ 1000000 ∧ (Q ++ (m.vl.take i).flatMap vlB).length ≤ 800000 ∧ (txtB (m.vl.getD i vl0).str).length ≤ 800000 := by
                have hm : m.vl.getD i vl0 ∈ m.vl := by rw [List.getD_eq_getElem?_getD, List.getElem?_eq_getElem hlt]; exact List.getElem_mem _
                have q1 := flat_le vlB m.vl _ hm
                have q2 := txt_len (m.vl.getD i vl0).str
                have q3 := flat_take_le vlB m.vl i
                have q6 : (vlB (m.vl.getD i vl0)).length = (intB (m.vl.getD i vl0).num).length + (txtB (m.vl.getD i vl0).str).length := by unfold vlB; simp
                refine ⟨by omega, ?_, by omega⟩
                simp only [List.length_append]; omega
              generalize m.vl.getD i vl0 = x at hcell HS hsz hok
              have e0 : ∀ j, wr.cell? ⟨b, j, none⟩ = W1.cell? ⟨b, j, none⟩ := fun j => R.out.cell (p := ⟨b, j, none⟩) hb
              have k0 := hcell 0 (by omega)
              have k1 := hcell 1 (by omega)
              simp only [Vl.cells, ← e0] at k0 k1
              simp at k0 k1
              have hbl : b < wr.heap.size := by have := R.out.size; omega
              have hnum : i64 x.num := hok.1
              have d5 := int_len _ hnum
              obtain ⟨L5, hL5⟩ : ∃ L5, Q ++ (m.vl.take i).flatMap vlB = L5 := ⟨_, rfl⟩
              rw [hL5] at hsz ⊢
              have HL5 : Hid (Q ++ (m.vl.take i).flatMap vlB = L5) := hL5
              clear hL5
              have zz1 := bsum (intB x.num) (txtB x.str) (by omega)
              have zz2 := bsum3 L5 (intB x.num) (txtB x.str) (by omega)
              obtain ⟨W7, hW7⟩ : ∃ W7, W7 = wr.alloc (.cells #[.int .i64 x.num, .string x.str] 52) := ⟨_, rfl⟩
              have b7 : Below wr.heap.size wr W7 := by rw [hW7]; exact below1 _ _
              have p7 : W7.heap[wr.heap.size]? = some (.cells #[.int .i64 x.num, .string x.str] 52 (0, 0)) := by rw [hW7]; exact heap_alloc_new wr _
              have y0 : W7.cell? ⟨wr.heap.size, 0, none⟩ = some (.int .i64 x.num) := blk_cell (j := 0) p7 (by simp)
              have y1 : W7.cell? ⟨wr.heap.size, 1, none⟩ = some (.string x.str) := blk_cell (j := 1) p7 (by simp)
              have yl := lt_of_block p7
              clear hcell e0 hok p7
              go_upto_region 21 with fail
              rw [← hW7]
              clear hW7 k0 k1
              go_upto_region 21 with fail
              go_region_law
                (first
                  | (go_simp; go_at_call 40; refine Calls.mono (rtext x.str _ hsz.1) ?_; rintro e v2 ⟨rfl, hbB⟩)
                  | (go_simp; go_at_call 39; refine Calls.mono (rint x.num _ hnum) ?_; rintro e v1 ⟨rfl, hbA⟩; have hbA' : Below W7.heap.size W7 v1 := ⟨hbA.os, hbA.tape, hbA.output, hbA.size, hbA.block⟩; have cA := below_cells hbA'; have lA := hbA'.size))
              all_goals
                have HN : Hid (Below W1.heap.size W1 v2) := R.out.trans ((b7.mono R.out.size).trans ((hbA'.trans (hbB.mono hbA'.size)).mono (Nat.le_trans R.out.size b7.size)))
                go_wp2
                go_roundw
                case rel => exact ⟨i + 1, by go_num, hlt, by rw [bs_app, bs_app, HS.out, ← HL5.out]; simp only [List.append_assoc], HN⟩
                case measure => simp [intOf]; omega
            · obtain rfl : i = m.vl.length := by omega
              have y8 : wr.cell? ⟨w.heap.size, 8, none⟩ = some (.string m.pay) := (R.out.cell (p := ⟨w.heap.size, 8, none⟩) xl).trans x8
              have yl : w.heap.size < wr.heap.size := by have := R.out.size; omega
              rw [List.take_length]
              have zz := bsum (Q ++ m.vl.flatMap vlB) (txtB m.pay) (by simp only [List.length_append]; omega)
              go_wp2_with fail
              refine (rtext m.pay _ (by have := txt_len m.pay; omega)).mono ?_
              rintro e w9 ⟨rfl, hb9⟩
              have b9 := b0.trans ((R.out.mono b0.size).trans (hb9.mono (Nat.le_trans b0.size R.out.size)))
              go_wp2
              go_ret
              refine ⟨ret_s ?_, b9⟩
              rw [HM.out, HT.out, bs_app, ← HQ.out, ← HL3.out]
              simp only [List.append_assoc]
end Go.Proofs.YtakfinccoffplaaDoor

/- api.Of of a reader's error is its code: errors.As is walked, round by round. -/
namespace Go.Proofs.YtakfinccoffplaaDoor
open Go.ChangeShapes Go.WideShapes Go.ChangeAt Go.RowKit Go.Extern.Stop Go.Stop Go.Extern
set_option linter.unusedVariables false

theorem valueOfP (t : Addr) (w : World) : Sem.run Tryd.prog (callFunc 41 #[.iface 68 (.pointer (some t))]) w
    = .ok (.value (.agg #[.pointer (some ⟨1, 68, none⟩), .pointer (some ⟨w.heap.size, 0, none⟩), .int .u64 150])) (w.alloc (.cells #[.pointer (some t)] 68)) := by
  rw [@run_callFunc_extern Tryd.prog 41 _ (fun args => ReflectliteValue.unpack (args.getD 0 (.tuple #[]))) Tryd.func41 (by kernel_rfl) (by kernel_rfl) (by kernel_rfl) (by kernel_rfl)]
  kernel_rfl
theorem valueOfC (c : Int) (w : World) : Sem.run Tryd.prog (callFunc 41 #[.iface 40 (.int .i64 c)]) w
    = .ok (.value (.agg #[.pointer (some ⟨1, 40, none⟩), .pointer (some ⟨w.heap.size, 0, none⟩), .int .u64 130])) (w.alloc (.cells #[.int .i64 c] 40)) := by
  rw [@run_callFunc_extern Tryd.prog 41 _ (fun args => ReflectliteValue.unpack (args.getD 0 (.tuple #[]))) Tryd.func41 (by kernel_rfl) (by kernel_rfl) (by kernel_rfl) (by kernel_rfl)]
  kernel_rfl
theorem typeOfV (a : Addr) (w : World) : Sem.run Tryd.prog (callFunc 42 #[.agg #[.pointer (some ⟨1, 68, none⟩), .pointer (some a), .int .u64 150]]) w
    = .ok (.value (.iface 112 (.agg #[.pointer (some ⟨1, 68, none⟩)]))) w := by
  rw [@run_callFunc_extern Tryd.prog 42 _ (ReflectliteValue.methodAny (ReflectliteValue.valueError "reflectlite.Value.Type" 0) (fun t _ _ _ => ReflectliteType.toType t)) Tryd.func42 (by kernel_rfl) (by kernel_rfl) (by kernel_rfl) (by kernel_rfl)]
  kernel_rfl
theorem m_kind (h : Value) (w : World) : (Go.method 255 112 (.agg #[h]) "Kind").run Tryd.prog w = .ok (70, h) w := by kernel_rfl
theorem kindP (w : World) : Sem.run Tryd.prog (callFunc 70 #[.pointer (some ⟨1, 68, none⟩)]) w = .ok (.value (.int .u8 22)) w := by
  rw [@run_callFunc_extern Tryd.prog 70 _ (ReflectliteType.abiMethod fun t => do pure (.int .u8 (← Rtype.kind t))) Tryd.func70 (by kernel_rfl) (by kernel_rfl) (by kernel_rfl) (by kernel_rfl)]
  kernel_rfl
theorem kindC (w : World) : Sem.run Tryd.prog (callFunc 70 #[.pointer (some ⟨1, 40, none⟩)]) w = .ok (.value (.int .u8 2)) w := by
  rw [@run_callFunc_extern Tryd.prog 70 _ (ReflectliteType.abiMethod fun t => do pure (.int .u8 (← Rtype.kind t))) Tryd.func70 (by kernel_rfl) (by kernel_rfl) (by kernel_rfl) (by kernel_rfl)]
  kernel_rfl
theorem m_elem (h : Value) (w : World) : (Go.method 255 112 (.agg #[h]) "Elem").run Tryd.prog w = .ok (81, .agg #[h]) w := by kernel_rfl
theorem m_impl (h : Value) (w : World) : (Go.method 255 112 (.agg #[h]) "Implements").run Tryd.prog w = .ok (82, .agg #[h]) w := by kernel_rfl
theorem m_assign (h : Value) (w : World) : (Go.method 255 112 (.agg #[h]) "AssignableTo").run Tryd.prog w = .ok (79, .agg #[h]) w := by kernel_rfl
theorem elemT (w : World) : Sem.run Tryd.prog (callFunc 81 #[.agg #[.pointer (some ⟨1, 68, none⟩)]]) w = .ok (.value (.iface 112 (.agg #[.pointer (some ⟨1, 40, none⟩)]))) w := by
  rw [@run_callFunc_extern Tryd.prog 81 _ (ReflectliteType.method ReflectliteType.elem) Tryd.func81 (by kernel_rfl) (by kernel_rfl) (by kernel_rfl) (by kernel_rfl)]
  kernel_rfl
theorem implT (w : World) : Sem.run Tryd.prog (callFunc 82 #[.agg #[.pointer (some ⟨1, 40, none⟩)], .iface 112 (.agg #[.pointer (some ⟨1, 30, none⟩)])]) w = .ok (.value (.bool true)) w := by
  rw [@run_callFunc_extern Tryd.prog 82 _ (ReflectliteType.relation "Implements" ReflectliteType.implements_) Tryd.func82 (by kernel_rfl) (by kernel_rfl) (by kernel_rfl) (by kernel_rfl)]
  kernel_rfl
theorem typeOfF (v : Value) (w : World) : Sem.run Tryd.prog (callFunc 53 #[.iface 124 v]) w = .ok (.value (.iface 112 (.agg #[.pointer (some ⟨1, 124, none⟩)]))) w := by
  rw [@run_callFunc_extern Tryd.prog 53 _ Extern.ReflectliteType.typeOf Tryd.func53 (by kernel_rfl) (by kernel_rfl) (by kernel_rfl) (by kernel_rfl)]
  kernel_rfl
theorem assignF (w : World) : Sem.run Tryd.prog (callFunc 79 #[.agg #[.pointer (some ⟨1, 124, none⟩)], .iface 112 (.agg #[.pointer (some ⟨1, 40, none⟩)])]) w = .ok (.value (.bool false)) w := by
  rw [@run_callFunc_extern Tryd.prog 79 _ (ReflectliteType.relation "AssignableTo" ReflectliteType.assignableTo) Tryd.func79 (by kernel_rfl) (by kernel_rfl) (by kernel_rfl) (by kernel_rfl)]
  kernel_rfl
theorem assignC (w : World) : Sem.run Tryd.prog (callFunc 79 #[.agg #[.pointer (some ⟨1, 40, none⟩)], .iface 112 (.agg #[.pointer (some ⟨1, 40, none⟩)])]) w = .ok (.value (.bool true)) w := by
  rw [@run_callFunc_extern Tryd.prog 79 _ (ReflectliteType.relation "AssignableTo" ReflectliteType.assignableTo) Tryd.func79 (by kernel_rfl) (by kernel_rfl) (by kernel_rfl) (by kernel_rfl)]
  kernel_rfl
theorem no_as_f (v : Value) (xT : TypeId) (w : World) : (Instr.typeAssert (.iface 124 v) xT 117 true).run Tryd.prog w = .ok (.tuple #[.nilIface, .bool false]) w := run_typeAssert_lacksB Tryd.underlying117 (by kernel_rfl) (by kernel_rfl) v xT w

end Go.Proofs.YtakfinccoffplaaDoor

/- api.Of of a reader's error is its code. -/
namespace Go.Proofs.YtakfinccoffplaaDoor
open Go.ChangeShapes Go.WideShapes Go.ChangeAt Go.RowKit Go.Extern.Stop Go.Stop Go.Extern
set_option linter.unusedVariables false

theorem rlm (z : Sem Value) (f : TypeId → Addr → Nat → Nat → Sem Value) (v : Value) :
    ReflectliteValue.method z f #[v] = (do match ← ReflectliteValue.parts v with | none => z | some (t, a, fl) => f t a fl (fl % 32)) := rfl
theorem partsP (a : Addr) (w : World) : (ReflectliteValue.parts (.agg #[.pointer (some ⟨1, 68, none⟩), .pointer (some a), .int .u64 150])).run Tryd.prog w = .ok (some (68, a, 150)) w := by kernel_rfl
theorem isNilP (a p : Addr) (W : World) (ha : W.cell? a = some (.pointer (some p))) :
    Sem.run Tryd.prog (callFunc 43 #[.agg #[.pointer (some ⟨1, 68, none⟩), .pointer (some a), .int .u64 150]]) W = .ok (.value (.bool false)) W := by
  rw [@run_callFunc_extern Tryd.prog 43 _ (ReflectliteValue.method (ReflectliteValue.valueError "reflectlite.Value.IsNil" 0) ReflectliteValue.isNil) Tryd.func43 (by kernel_rfl) (by kernel_rfl) (by kernel_rfl) (by kernel_rfl)]
  rw [rlm]
  simp only [Sem.run_bind, partsP, Result.andThen]
  simp [ReflectliteValue.isNil, loadVar, isAgg, underlying, Tryd.underlying68, ha, Result.andThen]
theorem elemOfP (w : World) : (Rtype.elem? 68).run Tryd.prog w = .ok (some 40) w := by kernel_rfl
theorem mkC (p : Addr) (w : World) : (ReflectliteValue.mk 40 p ReflectliteValue.flagAddr).run Tryd.prog w = .ok (.agg #[.pointer (some ⟨1, 40, none⟩), .pointer (some p), .int .u64 386]) w := by kernel_rfl
theorem elemV (a p : Addr) (W : World) (ha : W.cell? a = some (.pointer (some p))) :
    Sem.run Tryd.prog (callFunc 54 #[.agg #[.pointer (some ⟨1, 68, none⟩), .pointer (some a), .int .u64 150]]) W
      = .ok (.value (.agg #[.pointer (some ⟨1, 40, none⟩), .pointer (some p), .int .u64 386])) W := by
  rw [@run_callFunc_extern Tryd.prog 54 _ (ReflectliteValue.method (ReflectliteValue.valueError "reflectlite.Value.Elem" 0) ReflectliteValue.elem) Tryd.func54 (by kernel_rfl) (by kernel_rfl) (by kernel_rfl) (by kernel_rfl)]
  rw [rlm]
  simp only [Sem.run_bind, partsP, Result.andThen]
  simp [ReflectliteValue.elem, loadVar, isAgg, underlying, Tryd.underlying68, ha, Result.andThen, elemOfP, mkC]
theorem rls (v x : Value) : ReflectliteValue.set #[v, x] = (do
    let (some (dst, a, fl), some (src, b, _)) := (← ReflectliteValue.parts v, ← ReflectliteValue.parts x)
      | unsupported (.noEntry "extern/(internal/reflectlite.Value).Set.zeroValue")
    if fl / ReflectliteValue.flagAddr % 2 == 0 then unsupported (.noEntry "extern/(internal/reflectlite.Value).Set.unaddressable")
    let val ← loadVar src b
    if ← Rtype.directlyAssignable dst src then storeVar dst a val
    else if ← Rtype.implements dst src then
      if (← Rtype.kind src) == 20 then
        match val with
        | .nilIface => unsupported (.noEntry "extern/reflectlite: a nil value of one interface type handed on as a value of another")
        | _ => storeVar dst a val
      else storeVar dst a (.iface src val)
    else panicString ("reflectlite.Set: value of type " ++ (← Rtype.spelt src) ++ " is not assignable to type " ++ (← Rtype.spelt dst))
    pure (.tuple #[])) := rfl
theorem partsCa (a : Addr) (w : World) : (ReflectliteValue.parts (.agg #[.pointer (some ⟨1, 40, none⟩), .pointer (some a), .int .u64 386])).run Tryd.prog w = .ok (some (40, a, 386)) w := by kernel_rfl
theorem partsC (a : Addr) (w : World) : (ReflectliteValue.parts (.agg #[.pointer (some ⟨1, 40, none⟩), .pointer (some a), .int .u64 130])).run Tryd.prog w = .ok (some (40, a, 130)) w := by kernel_rfl
theorem directC (w : World) : (Rtype.directlyAssignable 40 40).run Tryd.prog w = .ok true w := by kernel_rfl
theorem setC (ta b : Addr) (c : Int) (old : Value) (W : World) (hb : W.cell? b = some (.int .i64 c)) (ht : W.cell? ta = some old) (hf : W.frozen? ta = false) :
    Sem.run Tryd.prog (callFunc 55 #[.agg #[.pointer (some ⟨1, 40, none⟩), .pointer (some ta), .int .u64 386], .agg #[.pointer (some ⟨1, 40, none⟩), .pointer (some b), .int .u64 130]]) W
      = .ok (.value (.tuple #[])) (W.setCell ta (.int .i64 c)) := by
  rw [@run_callFunc_extern Tryd.prog 55 _ ReflectliteValue.set Tryd.func55 (by kernel_rfl) (by kernel_rfl) (by kernel_rfl) (by kernel_rfl)]
  rw [rls]
  simp only [Sem.run_bind, partsCa, partsC, Result.andThen]
  simp [ReflectliteValue.flagAddr, loadVar, isAgg, underlying, Tryd.underlying40, hb, Result.andThen, directC, storeVar, Value.cells, storeCells, Addr.add]
  rw [run_store Tryd.prog W ta _ _ (by rfl)]
  simp [ht, hf]

/-- errors.errorType holds error's type. -/
def ErrType (w : World) : Prop := w.cell? ⟨0, 0, none⟩ = some (.iface 112 (.agg #[.pointer (some ⟨1, 30, none⟩)]))

theorem ErrType.lt {w : World} (h : ErrType w) : 0 < w.heap.size := by
  rcases Nat.eq_zero_or_pos w.heap.size with h0 | h1
  · unfold ErrType at h; simp [World.cell?, h0] at h
  · exact h1
theorem ErrType.below {w w' : World} {B : Nat} (h : ErrType w) (hB : 0 < B) (hb : Below B w w') : ErrType w' := by
  unfold ErrType at *
  rw [← h]; exact World.cell?_of_block (hb.block 0 hB)

set_option maxHeartbeats 4000000 in
theorem as_fault (g tb c : Nat) (old : Value) (w : World) (hg : ErrType w) (ht0 : w.cell? ⟨tb, 0, none⟩ = some old) (hf0 : w.frozen? ⟨tb, 0, none⟩ = false) (hc : w.cell? ⟨g, 2, none⟩ = some (.iface 40 (.int .i64 c))) :
    Calls Tryd.prog 24 #[.iface 124 (.pointer (some ⟨g, 0, none⟩)), .iface 68 (.pointer (some ⟨tb, 0, none⟩))] w fun ev w' => ev = .returned (.bool true) ∧
      w' = ((((w.alloc (.cells #[.pointer (some ⟨tb, 0, none⟩)] 68)).alloc (.cells #[.pointer (some ⟨1, 68, none⟩), .pointer (some ⟨w.heap.size, 0, none⟩), .int .u64 150] 93)).alloc (.cells #[.pointer (some ⟨1, 68, none⟩), .pointer (some ⟨w.heap.size, 0, none⟩), .int .u64 150] 93)).alloc (.cells #[.int .i64 c] 40)).setCell ⟨tb, 0, none⟩ (.int .i64 c) := by
  have hlt := hg.lt
  have hg0 : w.cell? ⟨0, 0, none⟩ = some (.iface 112 (.agg #[.pointer (some ⟨1, 30, none⟩)])) := hg
  clear hg
  have h1 := valueOfP
  have h2 := valueOfC
  have h3 := typeOfV
  have h4 := m_kind
  have h5 := kindP
  have h6 := kindC
  have h7 := m_elem
  have h8 := m_impl
  have h9 := m_assign
  have h10 := elemT
  have h11 := implT
  have h12 := typeOfF
  have h13 := assignF
  have h14 := assignC
  have h15 := no_as_f
  have h16 := has_unwrap
  have h17 := unwrap_method
  have h18 := type_call
  have htl : tb < w.heap.size := by
    rcases Nat.lt_or_ge tb w.heap.size with h | h
    · exact h
    · simp [World.cell?, Array.getElem?_eq_none h] at ht0
  have hgl : g < w.heap.size := by
    rcases Nat.lt_or_ge g w.heap.size with h | h
    · exact h
    · simp [World.cell?, Array.getElem?_eq_none h] at hc
  obtain ⟨A, hA⟩ : ∃ A, A = Obj.cells #[.pointer (some ⟨tb, 0, none⟩)] 68 := ⟨_, rfl⟩
  obtain ⟨V, hV⟩ : ∃ V, V = Obj.cells #[.pointer (some ⟨1, 68, none⟩), .pointer (some ⟨w.heap.size, 0, none⟩), .int .u64 150] 93 := ⟨_, rfl⟩
  obtain ⟨D, hD⟩ : ∃ D, D = Obj.cells #[.int .i64 c] 40 := ⟨_, rfl⟩
  have n8 := isNilP ⟨w.heap.size, 0, none⟩ ⟨tb, 0, none⟩ ((w.alloc A).alloc V) (by rw [World.cell?_alloc_lt _ _ ⟨w.heap.size, 0, none⟩ (by simp), hA]; simp)
  have hg2 : ((w.alloc A).alloc V).cell? ⟨0, 0, none⟩ = some (.iface 112 (.agg #[.pointer (some ⟨1, 30, none⟩)])) := by
    rw [World.cell?_alloc_lt _ _ ⟨0, 0, none⟩ (by simp), World.cell?_alloc_lt _ _ ⟨0, 0, none⟩ hlt]; exact hg0
  have hc3 : (((w.alloc A).alloc V).alloc V).cell? ⟨g, 2, none⟩ = some (.iface 40 (.int .i64 c)) := by
    rw [World.cell?_alloc_lt _ _ ⟨g, 2, none⟩ (by simp; omega), World.cell?_alloc_lt _ _ ⟨g, 2, none⟩ (by simp; omega), World.cell?_alloc_lt _ _ ⟨g, 2, none⟩ hgl]; exact hc
  have el := elemV ⟨w.heap.size, 0, none⟩ ⟨tb, 0, none⟩ (((w.alloc A).alloc V).alloc V) (by rw [World.cell?_alloc_lt _ _ ⟨w.heap.size, 0, none⟩ (by simp; omega), World.cell?_alloc_lt _ _ ⟨w.heap.size, 0, none⟩ (by simp), hA]; simp)
  have st := setC ⟨tb, 0, none⟩ ⟨w.heap.size + 1 + 1 + 1, 0, none⟩ c old ((((w.alloc A).alloc V).alloc V).alloc D)
    (by rw [hD, World.cell?_alloc_at _ _ _ _ (by simp)]; rfl)
    (by rw [World.cell?_alloc_lt _ _ ⟨tb, 0, none⟩ (by simp; omega), World.cell?_alloc_lt _ _ ⟨tb, 0, none⟩ (by simp; omega), World.cell?_alloc_lt _ _ ⟨tb, 0, none⟩ (by simp; omega), World.cell?_alloc_lt _ _ ⟨tb, 0, none⟩ htl]; exact ht0)
    (by rw [World.frozen?_alloc_old _ _ ⟨tb, 0, none⟩ (by simp; omega), World.frozen?_alloc_old _ _ ⟨tb, 0, none⟩ (by simp; omega), World.frozen?_alloc_old _ _ ⟨tb, 0, none⟩ (by simp; omega), World.frozen?_alloc_old _ _ ⟨tb, 0, none⟩ (Nat.ne_of_lt htl)]; exact hf0)
  subst hA hV hD
  clear hgl hg0 hc
  go_enter Tryd.func24, Tryd.ntmps24
  go_wp2
  refine wp_loop_rounds 2 ?_
  rw [rounds_succ]
  go_wp2
  rw [rounds_succ]
  go_wp2
  go_ret
  exact ⟨rfl, rfl⟩

end Go.Proofs.YtakfinccoffplaaDoor

/- api.Of of a reader's error is its code. -/
namespace Go.Proofs.YtakfinccoffplaaDoor
open Go.ChangeShapes Go.WideShapes Go.ChangeAt Go.RowKit Go.Extern.Stop Go.Stop Go.Extern
set_option linter.unusedVariables false

theorem of_nil (w : World) : Calls Tryd.prog 10 #[.nilIface] w fun e w' => e = .returned (.int .i64 0) ∧ w' = w := by
  go_enter Tryd.func10, Tryd.ntmps10
  go_wp2
  go_ret
  exact ⟨rfl, rfl⟩

theorem of_fault (g c : Nat) (w : World) (hg : ErrType w) (hF : IsFault w (.iface 124 (.pointer (some ⟨g, 0, none⟩))) c) :
    Calls Tryd.prog 10 #[.iface 124 (.pointer (some ⟨g, 0, none⟩))] w fun e w' => e = .returned (.int .i64 c) ∧ Below w.heap.size w w' := by
  have hlt := hg.lt
  obtain ⟨g', at7, hv, hF'⟩ := hF
  have hgg : g' = g := by simpa using hv.symm
  subst hgg
  have hgl := lt_of_block hF'
  have hg1 : ErrType (w.alloc (.cells #[.int .i64 0] 40)) := hg.below hlt ((Below.refl _ _).alloc (Nat.le_of_lt (Nat.lt_of_lt_of_le Nat.zero_lt_one hlt)) _ |>.mono (Nat.le_refl _) |> fun h => ⟨h.os, h.tape, h.output, h.size, fun k hk => Below.heap_alloc w _ k hk⟩)
  have hc1 : (w.alloc (.cells #[.int .i64 0] 40)).cell? ⟨g', 2, none⟩ = some (.iface 40 (.int .i64 c)) := by
    rw [World.cell?_alloc_lt _ _ ⟨g', 2, none⟩ hgl]; simp [World.cell?, hF']
  clear hF' hv
  go_enter Tryd.func10, Tryd.ntmps10
  go_wp2_with fail
  refine (as_fault g' w.heap.size c (.int .i64 0) _ hg1 (by simp) (by simp) hc1).mono ?_
  rintro e w' ⟨rfl, hw'⟩
  have hb : Below w.heap.size w w' := by
    rw [hw']
    refine Below.setCell (((((Below.refl _ _).alloc (Nat.le_refl _) _).alloc (by simp) _).alloc (by simp; omega) _).alloc (by simp; omega) _ |>.alloc (by simp; omega) _) (Nat.le_refl _) _
  have hcell : w'.cell? ⟨w.heap.size, 0, none⟩ = some (.int .i64 c) := by
    rw [hw']
    refine World.cell?_setCell_same' _ _ _ ?_
    rw [World.cell?_alloc_lt _ _ ⟨w.heap.size, 0, none⟩ (by simp; omega), World.cell?_alloc_lt _ _ ⟨w.heap.size, 0, none⟩ (by simp; omega), World.cell?_alloc_lt _ _ ⟨w.heap.size, 0, none⟩ (by simp; omega), World.cell?_alloc_lt _ _ ⟨w.heap.size, 0, none⟩ (by simp)]
    simp
  clear hw'
  go_wp2
  go_ret
  exact ⟨rfl, hb⟩

end Go.Proofs.YtakfinccoffplaaDoor

/- api.Of of a bare code is the code. -/
namespace Go.Proofs.YtakfinccoffplaaDoor
open Go.ChangeShapes Go.WideShapes Go.ChangeAt Go.RowKit Go.Extern.Stop Go.Stop Go.Extern
set_option linter.unusedVariables false

theorem typeOfC4 (v : Value) (w : World) : Sem.run Tryd.prog (callFunc 53 #[.iface 40 v]) w = .ok (.value (.iface 112 (.agg #[.pointer (some ⟨1, 40, none⟩)]))) w := by
  rw [@run_callFunc_extern Tryd.prog 53 _ Extern.ReflectliteType.typeOf Tryd.func53 (by kernel_rfl) (by kernel_rfl) (by kernel_rfl) (by kernel_rfl)]
  kernel_rfl

set_option maxHeartbeats 4000000 in
theorem as_code (tb : Nat) (c : Int) (old : Value) (w : World) (hg : ErrType w) (ht0 : w.cell? ⟨tb, 0, none⟩ = some old) (hf0 : w.frozen? ⟨tb, 0, none⟩ = false) :
    Calls Tryd.prog 24 #[.iface 40 (.int .i64 c), .iface 68 (.pointer (some ⟨tb, 0, none⟩))] w fun ev w' => ev = .returned (.bool true) ∧
      w' = ((((w.alloc (.cells #[.pointer (some ⟨tb, 0, none⟩)] 68)).alloc (.cells #[.pointer (some ⟨1, 68, none⟩), .pointer (some ⟨w.heap.size, 0, none⟩), .int .u64 150] 93)).alloc (.cells #[.pointer (some ⟨1, 68, none⟩), .pointer (some ⟨w.heap.size, 0, none⟩), .int .u64 150] 93)).alloc (.cells #[.int .i64 c] 40)).setCell ⟨tb, 0, none⟩ (.int .i64 c) := by
  have hlt := hg.lt
  have hg0 : w.cell? ⟨0, 0, none⟩ = some (.iface 112 (.agg #[.pointer (some ⟨1, 30, none⟩)])) := hg
  clear hg
  have h1 := valueOfP
  have h2 := valueOfC
  have h3 := typeOfV
  have h4 := m_kind
  have h5 := kindP
  have h6 := kindC
  have h7 := m_elem
  have h8 := m_impl
  have h9 := m_assign
  have h10 := elemT
  have h11 := implT
  have h14 := assignC
  have h18 := typeOfC4
  have htl : tb < w.heap.size := by
    rcases Nat.lt_or_ge tb w.heap.size with h | h
    · exact h
    · simp [World.cell?, Array.getElem?_eq_none h] at ht0
  obtain ⟨A, hA⟩ : ∃ A, A = Obj.cells #[.pointer (some ⟨tb, 0, none⟩)] 68 := ⟨_, rfl⟩
  obtain ⟨V, hV⟩ : ∃ V, V = Obj.cells #[.pointer (some ⟨1, 68, none⟩), .pointer (some ⟨w.heap.size, 0, none⟩), .int .u64 150] 93 := ⟨_, rfl⟩
  obtain ⟨D, hD⟩ : ∃ D, D = Obj.cells #[.int .i64 c] 40 := ⟨_, rfl⟩
  have n8 := isNilP ⟨w.heap.size, 0, none⟩ ⟨tb, 0, none⟩ ((w.alloc A).alloc V) (by rw [World.cell?_alloc_lt _ _ ⟨w.heap.size, 0, none⟩ (by simp), hA]; simp)
  have hg2 : ((w.alloc A).alloc V).cell? ⟨0, 0, none⟩ = some (.iface 112 (.agg #[.pointer (some ⟨1, 30, none⟩)])) := by
    rw [World.cell?_alloc_lt _ _ ⟨0, 0, none⟩ (by simp), World.cell?_alloc_lt _ _ ⟨0, 0, none⟩ hlt]; exact hg0
  have el := elemV ⟨w.heap.size, 0, none⟩ ⟨tb, 0, none⟩ (((w.alloc A).alloc V).alloc V) (by rw [World.cell?_alloc_lt _ _ ⟨w.heap.size, 0, none⟩ (by simp; omega), World.cell?_alloc_lt _ _ ⟨w.heap.size, 0, none⟩ (by simp), hA]; simp)
  have st := setC ⟨tb, 0, none⟩ ⟨w.heap.size + 1 + 1 + 1, 0, none⟩ c old ((((w.alloc A).alloc V).alloc V).alloc D)
    (by rw [hD, World.cell?_alloc_at _ _ _ _ (by simp)]; rfl)
    (by rw [World.cell?_alloc_lt _ _ ⟨tb, 0, none⟩ (by simp; omega), World.cell?_alloc_lt _ _ ⟨tb, 0, none⟩ (by simp; omega), World.cell?_alloc_lt _ _ ⟨tb, 0, none⟩ (by simp; omega), World.cell?_alloc_lt _ _ ⟨tb, 0, none⟩ htl]; exact ht0)
    (by rw [World.frozen?_alloc_old _ _ ⟨tb, 0, none⟩ (by simp; omega), World.frozen?_alloc_old _ _ ⟨tb, 0, none⟩ (by simp; omega), World.frozen?_alloc_old _ _ ⟨tb, 0, none⟩ (by simp; omega), World.frozen?_alloc_old _ _ ⟨tb, 0, none⟩ (Nat.ne_of_lt htl)]; exact hf0)
  subst hA hV hD
  clear hg0
  go_enter Tryd.func24, Tryd.ntmps24
  go_wp2
  refine wp_loop_rounds 1 ?_
  rw [rounds_succ]
  go_wp2
  go_ret
  exact ⟨rfl, rfl⟩

theorem of_code (c : Int) (w : World) (hg : ErrType w) :
    Calls Tryd.prog 10 #[.iface 40 (.int .i64 c)] w fun e w' => e = .returned (.int .i64 c) ∧ Below w.heap.size w w' := by
  have hlt := hg.lt
  have hg1 : ErrType (w.alloc (.cells #[.int .i64 0] 40)) := hg.below hlt ((Below.refl _ _).alloc (Nat.le_refl _) _)
  go_enter Tryd.func10, Tryd.ntmps10
  go_wp2_with fail
  refine (as_code w.heap.size c (.int .i64 0) _ hg1 (by simp) (by simp)).mono ?_
  rintro e w' ⟨rfl, hw'⟩
  have hb : Below w.heap.size w w' := by
    rw [hw']
    refine Below.setCell (((((Below.refl _ _).alloc (Nat.le_refl _) _).alloc (by simp) _).alloc (by simp; omega) _).alloc (by simp; omega) _ |>.alloc (by simp; omega) _) (Nat.le_refl _) _
  have hcell : w'.cell? ⟨w.heap.size, 0, none⟩ = some (.int .i64 c) := by
    rw [hw']
    refine World.cell?_setCell_same' _ _ _ ?_
    rw [World.cell?_alloc_lt _ _ ⟨w.heap.size, 0, none⟩ (by simp; omega), World.cell?_alloc_lt _ _ ⟨w.heap.size, 0, none⟩ (by simp; omega), World.cell?_alloc_lt _ _ ⟨w.heap.size, 0, none⟩ (by simp; omega), World.cell?_alloc_lt _ _ ⟨w.heap.size, 0, none⟩ (by simp)]
    simp
  clear hw'
  go_wp2
  go_ret
  exact ⟨rfl, hb⟩
end Go.Proofs.YtakfinccoffplaaDoor

/- The document's Bytes; api.Of of a code. -/
namespace Go.Proofs.YtakfinccoffplaaDoor
open Go.ChangeShapes Go.WideShapes Go.ChangeAt Go.RowKit
set_option linter.unusedVariables false

theorem of_cd (c : Nat) (w : World) (hE : ErrType w) : Calls Tryd.prog 10 #[cdV c] w fun e w' => e = .returned (.int .i64 (c : Int)) ∧ Below w.heap.size w w' := by
  by_cases hc : c = 0
  · subst hc
    rw [cdV0]
    refine (of_nil w).mono ?_
    rintro e w' ⟨rfl, hw'⟩
    subst w'
    exact ⟨rfl, Below.refl _ _⟩
  · rw [cdV_ne _ hc]; exact of_code c w hE

set_option maxRecDepth 100000 in
set_option maxHeartbeats 4000000 in
theorem rmbytes_any (m : Mg) (fa : Option Addr) (fc : Nat) (va : Option Addr) (vc : Nat) (w : World) (hf : InRow 1 encS okS ByteArray.empty w fa m.fl.length m.fl) (hv : InRow 2 Vl.cells Vl.ok vl0 w va m.vl.length m.vl)
    (hg : m.group.size ≤ 9223372036854775807) (hl : (m.fl.flatMap txtB).length + (m.vl.flatMap vlB).length + (txtB m.pay).length ≤ 700000) :
    Calls Tryd.prog 7 #[m.val fa fc va vc] w fun e w' => e = .returned (.tuple #[.string (byR m).1, .int .i64 ((byR m).2 : Int)]) ∧ Below w.heap.size w w' := by
  obtain ⟨W1, hW1⟩ : ∃ W1, W1 = w.alloc (.cells #[.int .i64 m.kind, .string m.group, .bool m.any, .slice fa m.fl.length fc, .int .i64 m.pub, .int .i64 m.seq, .int .i64 m.hops, .slice va m.vl.length vc, .string m.pay] 37) := ⟨_, rfl⟩
  have b0 : Below w.heap.size w W1 := by rw [hW1]; exact below1 _ _
  have pB : W1.heap[w.heap.size]? = some (.cells #[.int .i64 m.kind, .string m.group, .bool m.any, .slice fa m.fl.length fc, .int .i64 m.pub, .int .i64 m.seq, .int .i64 m.hops, .slice va m.vl.length vc, .string m.pay] 37 (0, 0)) := by rw [hW1]; exact heap_alloc_new w _
  have xl := lt_of_block pB
  have hck := rcheck_any m fa fc va vc W1 hg (by have := txt_len m.pay; omega) hv.2.1 hf.2.1
  obtain ⟨x0, x1, x2, x3, x4, x5, x6, x7, x8⟩ := cells9 pB
  by_cases hc : chk m = 0
  · have HT : Hid (byR m = if 1970 < (mB m).length then (ByteArray.empty, 4) else (bs (mB m), 0)) := (by unfold byR; rw [if_pos hc]; rfl : byR m = _)
    have ctx : ∀ W, Below W1.heap.size W1 W → _ := fun W hW => rmtext_any m fa fc va vc W ((hf.below (Nat.le_refl _) b0).below (Nat.le_refl _) hW) ((hv.below (Nat.le_refl _) b0).below (Nat.le_refl _) hW) hc hl
    have hz := bs_size (mB m)
    generalize bs (mB m) = D at ctx HT hz
    have hcase : (1970 < (mB m).length ∧ (1970 : Int) < (D.size : Int)) ∨ (¬ 1970 < (mB m).length ∧ ¬ (1970 : Int) < (D.size : Int)) := by omega
    rw [hc] at hck
    unfold Mg.val at hck ctx ⊢
    clear hc hz hf hv
    go_enter Tryd.func7, Tryd.ntmps7
    go_upto_region 1 with fail
    rw [← hW1]
    clear hW1
    go_wp2_with fail
    refine hck.mono ?_
    rintro e w2 ⟨rfl, hb2⟩
    have p2 := (hb2.block _ xl).trans pB
    obtain ⟨y0, y1, y2, y3, y4, y5, y6, y7, y8⟩ := cells9 p2
    have yl := lt_of_block p2
    go_wp2_with fail
    refine (ctx _ hb2).mono ?_
    rintro e w3 ⟨rfl, hb3⟩
    have b3 := b0.trans ((hb2.mono b0.size).trans (hb3.mono (Nat.le_trans b0.size hb2.size)))
    rcases hcase with ⟨h1, h2⟩ | ⟨h1, h2⟩
    · rw [if_pos h1] at HT
      go_wp2
      go_ret2
      exact ⟨by rw [HT.out]; rfl, b3⟩
    · rw [if_neg h1] at HT
      go_wp2
      go_ret2
      exact ⟨by rw [HT.out]; rfl, b3⟩
  · have HT : Hid (byR m = (ByteArray.empty, chk m)) := (by unfold byR; rw [if_neg hc] : byR m = _)
    have hne := bne_t (show ¬ (chk m : Int) = 0 by omega)
    generalize chk m = c at *
    unfold Mg.val at hck ⊢
    clear hf hv
    go_enter Tryd.func7, Tryd.ntmps7
    go_upto_region 1 with fail
    rw [← hW1]
    clear hW1
    go_wp2_with fail
    refine hck.mono ?_
    rintro e w2 ⟨rfl, hb2⟩
    go_wp2
    go_ret2
    exact ⟨by rw [HT.out]; rfl, b0.trans (hb2.mono b0.size)⟩
end Go.Proofs.YtakfinccoffplaaDoor

/- The document's reader (wigwagref02.Open, ReadNumber, ReadInt, ReadBelow, ReadText, Done): a cursor goes in, a cursor comes out. -/
namespace Go.Proofs.YtakfinccoffplaaDoor
open Go.ChangeShapes Go.WideShapes Go.ChangeAt Go.RowKit
set_option linter.unusedVariables false

/-- A cursor's value. -/
abbrev curV (s : ByteArray) (at' c : Nat) : Value := .agg #[.string s, .int .i64 at', .int .i64 c]
/-- A cursor at block q. -/
def Cu (w : World) (q : Nat) (s : ByteArray) (at' c : Nat) : Prop :=
  w.heap[q]? = some (.cells #[.string s, .int .i64 at', .int .i64 c] 78 (0, 0))

section
variable {w : World} {q : Nat} {s : ByteArray} {at' c : Nat}
theorem Cu.lt (h : Cu w q s at' c) : q < w.heap.size := lt_of_block h
theorem Cu.text (h : Cu w q s at' c) : w.cell? ⟨q, 0, none⟩ = some (.string s) := by unfold Cu at h; simp [World.cell?, h]
theorem Cu.at (h : Cu w q s at' c) : w.cell? ⟨q, 1, none⟩ = some (.int .i64 at') := by unfold Cu at h; simp [World.cell?, h]
theorem Cu.code (h : Cu w q s at' c) : w.cell? ⟨q, 2, none⟩ = some (.int .i64 c) := by unfold Cu at h; simp [World.cell?, h]
theorem Cu.free (h : Cu w q s at' c) (o : Nat) : w.frozen? ⟨q, o, none⟩ = false := by unfold Cu at h; simp [World.frozen?, h]
theorem Cu.alloc (h : Cu w q s at' c) (o : Obj) : Cu (w.alloc o) q s at' c := (Below.heap_alloc w o q h.lt).trans h
theorem Cu.drewN (h : Cu w q s at' c) (n : Nat) : Cu (w.drewN n) q s at' c := h
theorem Cu.drew (h : Cu w q s at' c) : Cu w.drew q s at' c := h
theorem Cu.below {w' : World} (h : Cu w q s at' c) (hb : Below w.heap.size w w') : Cu w' q s at' c := (hb.block q h.lt).trans h
theorem Cu.setAt (h : Cu w q s at' c) (x : Nat) : Cu (w.setCell ⟨q, 1, none⟩ (.int .i64 x)) q s x c := by
  have hlt := h.lt
  have h' : w.heap[q] = .cells #[.string s, .int .i64 at', .int .i64 c] 78 (0, 0) := by
    unfold Cu at h; simpa [Array.getElem?_eq_getElem hlt] using h
  show (w.heap.modify q _)[q]? = _
  rw [Array.getElem?_eq_getElem (by simpa using hlt), Array.getElem_modify_self, h']
  rfl
end

theorem cu_new (w : World) (s : ByteArray) (at' c : Nat) : Cu (w.alloc (.cells #[.string s, .int .i64 at', .int .i64 c] 78)) w.heap.size s at' c := heap_alloc_new w _

theorem copen_any (s : ByteArray) (w : World) :
    Calls Tryd.prog 33 #[.string s] w fun e w' => e = .returned (curV s 0 0) ∧ Below w.heap.size w w' := by
  go_enter Tryd.func33, Tryd.ntmps33
  go_wp2
  exact bodyPost_ret (v := curV s 0 0) (by simp [results, Tryd.results33, go_sem]) rfl ⟨rfl, (Below.refl _ _).alloc (Nat.le_refl _) _⟩

theorem cnumber_stuck (s : ByteArray) (at' c : Nat) (w : World) (hc : c ≠ 0) :
    Calls Tryd.prog 51 #[curV s at' c] w fun e w' => e = .returned (.tuple #[curV s at' c, .int .u64 0]) ∧ Below w.heap.size w w' := by
  have hb : ((c : Int) == 0) = false := beq_eq_false_iff_ne.2 (by omega)
  go_enter Tryd.func51, Tryd.ntmps51
  go_wp2
  refine wp_loop_rounds 1 ?_
  rw [rounds_succ]
  go_wp2
  exact bodyPost_ret (v := .tuple #[curV s at' c, .int .u64 0]) (by simp [results, Tryd.results51, go_sem]) rfl ⟨rfl, ((Below.refl _ _).alloc (Nat.le_refl _) _).alloc (by simp) _⟩
end Go.Proofs.YtakfinccoffplaaDoor

/- The document's ReadNumber. -/
namespace Go.Proofs.YtakfinccoffplaaDoor
open Go.ChangeShapes Go.WideShapes Go.ChangeAt Go.RowKit
set_option linter.unusedVariables false

theorem add_term (c : UInt8) (acc i : Nat) (ha : acc < 128 ^ i) (hi : i ≤ 9) (h9 : i = 9 → c.toNat ≤ 1) :
    acc + c.toNat % 128 * 128 ^ i < 18446744073709551616 := by
  rcases Nat.lt_or_ge i 9 with h8 | h8
  · have hp : (128 : Nat) ^ i ≤ 128 ^ 8 := Nat.pow_le_pow_right (by omega) (by omega)
    have e8 : (128 : Nat) ^ 8 = 72057594037927936 := by decide
    rw [e8] at hp
    have hm : c.toNat % 128 * 128 ^ i ≤ 127 * 72057594037927936 := Nat.mul_le_mul (by omega) hp
    omega
  · have e9 : i = 9 := by omega
    have hc := h9 e9
    subst e9
    have e8 : (128 : Nat) ^ 9 = 9223372036854775808 := by decide
    rw [e8] at ha ⊢; omega

theorem add_val (c : UInt8) (acc i unit : Nat) (hu : unit = 128 ^ i) (ha : acc < 128 ^ i) (hi : i ≤ 9) (h9 : i = 9 → c.toNat ≤ 1) :
    IntKind.u64.wrap ((acc : Int) + IntKind.u64.wrap ((c.toNat : Int) % 128 * (unit : Int))) = ((acc + c.toNat % 128 * 128 ^ i : Nat) : Int) := by
  have h := add_term c acc i ha hi h9
  subst hu
  have e : (c.toNat : Int) % 128 * ((128 ^ i : Nat) : Int) = ((c.toNat % 128 * 128 ^ i : Nat) : Int) := by rw [Int.natCast_mul]; rfl
  rw [e]
  obtain ⟨m, hm⟩ : ∃ m, m = c.toNat % 128 * 128 ^ i := ⟨_, rfl⟩
  rw [← hm] at h ⊢
  have e1 : IntKind.u64.wrap (m : Int) = (m : Int) := IntWalk.u64_in _ ⟨by omega, by omega⟩
  rw [e1, IntWalk.u64_in _ ⟨by omega, by omega⟩]
  omega
theorem unit_val (i unit : Nat) (hu : unit = 128 ^ i) (hi : i < 9) : IntKind.u64.wrap ((unit : Int) * 128) = ((128 ^ (i + 1) : Nat) : Int) := by
  have hp : (128 : Nat) ^ i ≤ 128 ^ 8 := Nat.pow_le_pow_right (by omega) (by omega)
  have e8 : (128 : Nat) ^ 8 = 72057594037927936 := by decide
  rw [Nat.pow_succ, ← hu]
  rw [← hu] at hp
  rw [IntWalk.u64_in _ ⟨by omega, by omega⟩]
  omega

/-- The two blocks that ReadNumber makes: the cursor, and room for its answer. -/
abbrev cur2 (w : World) (s : ByteArray) (p : Nat) : World :=
  (w.alloc (.cells #[.string s, .int .i64 p, .int .i64 0] 78)).alloc (.cells #[.string { data := #[] }, .int .i64 0, .int .i64 0] 78)
theorem cur2_step (w : World) (s : ByteArray) (p x : Nat) : (cur2 w s p).setCell ⟨w.heap.size, 1, none⟩ (.int .i64 x) = cur2 w s x := by
  unfold cur2 World.setCell World.alloc
  congr 1
  apply Array.ext (by simp)
  intro i h1 h2
  have h3 : i < w.heap.size + 1 + 1 := by simpa using h2
  by_cases e0 : i = w.heap.size
  · subst e0
    simp [Array.getElem_modify, Array.getElem_push]
  · rw [Array.getElem_modify, if_neg (by simpa using fun h => e0 h.symm)]
    rcases Nat.lt_or_ge i w.heap.size with e1 | e1
    · simp [Array.getElem_push, e1, show i < w.heap.size + 1 by omega]
    · obtain rfl : i = w.heap.size + 1 := by omega
      simp [Array.getElem_push]

theorem cfin_bad {s : ByteArray} {p at' i n k cd : Nat} {w w' : World} {c : Nat} (hp : p = at' + i) (h : n = 0 ∧ k = i ∧ cd = c) (hb : Below w.heap.size w w') :
    Ending.returned (.tuple #[curV s p c, .int .u64 0]) = .returned (.tuple #[curV s (at' + k) cd, .int .u64 n]) ∧ Below w.heap.size w w' := by
  obtain ⟨rfl, rfl, rfl⟩ := h
  subst hp
  exact ⟨rfl, hb⟩
theorem cfin_last {s : ByteArray} {p at' i n k cd a : Nat} {w w' : World} {x : Int} (hp : p = at' + i) (h : n = a ∧ k = i + 1 ∧ cd = 0) (hx : x = (a : Nat)) (hb : Below w.heap.size w w') :
    Ending.returned (.tuple #[.agg #[.string s, .int .i64 ((p : Int) + 1), .int .i64 0], .int .u64 x]) = .returned (.tuple #[curV s (at' + k) cd, .int .u64 n]) ∧ Below w.heap.size w w' := by
  obtain ⟨rfl, rfl, rfl⟩ := h
  subst hp hx
  exact ⟨rfl, hb⟩
theorem bel2 (w : World) (a b : Obj) : Below w.heap.size w ((w.alloc a).alloc b) := ((Below.refl _ _).alloc (Nat.le_refl _) _).alloc (by simp) _

set_option maxRecDepth 100000 in
set_option maxHeartbeats 1000000 in
theorem cnumber_any (s : ByteArray) (at' n k cd : Nat) (w : World) (hat : at' ≤ s.size) (hs : s.size ≤ 1000000) (hr : rdNum 0 0 (s.data.toList.drop at') = (n, k, cd)) :
    Calls Tryd.prog 51 #[curV s at' 0] w fun e w' => e = .returned (.tuple #[curV s (at' + k) cd, .int .u64 n]) ∧ Below w.heap.size w w' := by
  have HR : Hid (rdNum 0 0 (s.data.toList.drop at') = (n, k, cd)) := hr
  clear hr
  go_enter Tryd.func51, Tryd.ntmps51
  go_wp2
  go_loopw [4, 5, 6] (fun x y z wr => ∃ i acc p unit : Nat, x = .int .u64 acc ∧ y = .int .u64 unit ∧ z = .int .i64 i ∧ Hid (p = at' + i) ∧ Hid (unit = 128 ^ i) ∧ p ≤ s.size ∧ i ≤ 9 ∧ Hid (acc < 128 ^ i) ∧ RS (s.data.toList.drop at') i acc ∧ wr = cur2 w s p)
    (fun _ _ z _ => 10 - (intOf z).toNat)
  case atStart => exact ⟨0, 0, at', 1, rfl, rfl, rfl, (rfl : at' = at' + 0), (by decide : 1 = 128 ^ 0), hat, by omega, (by decide : 0 < 128 ^ 0), rs_start _, rfl⟩
  case round =>
    obtain ⟨i, acc, p, unit, rfl, rfl, rfl, HP, HU, hp, hi9, HA, hrs, rfl⟩ := hrel
    have hi11 : (i : Int) < 11 := by omega
    by_cases hlt : p < s.size
    · have hp0 : (0 : Int) ≤ (p : Int) := by omega
      have hpi : (p : Int) < (s.size : Int) := by omega
      have hnl : ¬ (s.size : Int) ≤ (p : Int) := by omega
      have hx8 := (s[p]).toNat_lt
      by_cases e9 : ((i : Int) == 9) = true
      · have i9 : i = 9 := by have := beq_iff_eq.1 e9; omega
        have e0 : 0 < (i : Int) := by omega
        have H9 : Hid (i = 9) := i9
        clear i9
        by_cases e1 : 1 < ((s[p]).toNat : Int)
        · go_wp2
          exact bodyPost_ret (v := .tuple #[curV s p 11, .int .u64 0]) (by simp [results, Tryd.results51, go_sem]) rfl (cfin_bad HP.out (fin_eq HR.out (rs_bad hrs (get_at s at' i p HP.out hlt) (.inl ⟨H9.out, by omega⟩))) (bel2 w _ _))
        · by_cases ez : ((s[p].toNat : Int) == 0) = true
          · go_wp2
            exact bodyPost_ret (v := .tuple #[curV s p 11, .int .u64 0]) (by simp [results, Tryd.results51, go_sem]) rfl (cfin_bad HP.out (fin_eq HR.out (rs_bad hrs (get_at s at' i p HP.out hlt) (.inr ⟨by omega, by have := beq_iff_eq.1 ez; omega⟩))) (bel2 w _ _))
          · have ez : ((s[p].toNat : Int) == 0) = false := by simpa using ez
            have hz : (s[p]).toNat ≠ 0 := by have := beq_eq_false_iff_ne.1 ez; omega
            have el : ((s[p]).toNat : Int) < 128 := by omega
            have HL : Hid (rdNum 0 0 (s.data.toList.drop at') = (acc + (s[p]).toNat % 128 * 128 ^ i, i + 1, 0)) := rs_last hrs (get_at s at' i p HP.out hlt) (by omega) (by omega)
            have HO : Hid (IntKind.u64.wrap ((acc : Int) + IntKind.u64.wrap (((s[p]).toNat : Int) % 128 * (unit : Int))) = ((acc + (s[p]).toNat % 128 * 128 ^ i : Nat) : Int)) := add_val (s[p]) acc i unit HU.out HA.out hi9 (by omega)
            go_wp2
            exact bodyPost_ret (v := .tuple #[.agg #[.string s, .int .i64 ((p : Int) + 1), .int .i64 0], .int .u64 (IntKind.u64.wrap ((acc : Int) + IntKind.u64.wrap (((s[p]).toNat : Int) % 128 * (unit : Int))))]) (by simp [results, Tryd.results51, go_sem]) rfl (cfin_last HP.out (fin_eq HR.out HL.out) HO.out (bel2 w _ _))
      · have e9 : ((i : Int) == 9) = false := by simpa using e9
        have hn9 : i ≠ 9 := by have := beq_eq_false_iff_ne.1 e9; omega
        by_cases e0 : 0 < (i : Int)
        · by_cases ez : ((s[p].toNat : Int) == 0) = true
          · go_wp2
            exact bodyPost_ret (v := .tuple #[curV s p 11, .int .u64 0]) (by simp [results, Tryd.results51, go_sem]) rfl (cfin_bad HP.out (fin_eq HR.out (rs_bad hrs (get_at s at' i p HP.out hlt) (.inr ⟨by omega, by have := beq_iff_eq.1 ez; omega⟩))) (bel2 w _ _))
          · have ez : ((s[p].toNat : Int) == 0) = false := by simpa using ez
            have hz : (s[p]).toNat ≠ 0 := by have := beq_eq_false_iff_ne.1 ez; omega
            by_cases el : (s[p].toNat : Int) < 128
            · have HL : Hid (rdNum 0 0 (s.data.toList.drop at') = (acc + (s[p]).toNat % 128 * 128 ^ i, i + 1, 0)) := rs_last hrs (get_at s at' i p HP.out hlt) (by omega) (by omega)
              have HO : Hid (IntKind.u64.wrap ((acc : Int) + IntKind.u64.wrap (((s[p]).toNat : Int) % 128 * (unit : Int))) = ((acc + (s[p]).toNat % 128 * 128 ^ i : Nat) : Int)) := add_val (s[p]) acc i unit HU.out HA.out hi9 (by omega)
              go_wp2
              exact bodyPost_ret (v := .tuple #[.agg #[.string s, .int .i64 ((p : Int) + 1), .int .i64 0], .int .u64 (IntKind.u64.wrap ((acc : Int) + IntKind.u64.wrap (((s[p]).toNat : Int) % 128 * (unit : Int))))]) (by simp [results, Tryd.results51, go_sem]) rfl (cfin_last HP.out (fin_eq HR.out HL.out) HO.out (bel2 w _ _))
            · have hi8 : i < 9 := by omega
              have HM : Hid (RS (s.data.toList.drop at') (i + 1) (acc + (s[p]).toNat % 128 * 128 ^ i)) := rs_more hrs (get_at s at' i p HP.out hlt) (by omega) (by omega)
              have HO : Hid (IntKind.u64.wrap ((acc : Int) + IntKind.u64.wrap (((s[p]).toNat : Int) % 128 * (unit : Int))) = ((acc + (s[p]).toNat % 128 * 128 ^ i : Nat) : Int)) := add_val (s[p]) acc i unit HU.out HA.out hi9 (by omega)
              have HV : Hid (IntKind.u64.wrap ((unit : Int) * 128) = ((128 ^ (i + 1) : Nat) : Int)) := unit_val i unit HU.out hi8
              clear hrs
              go_wp2
              go_roundw
              case rel => exact ⟨i + 1, acc + (s[p]).toNat % 128 * 128 ^ i, p + 1, 128 ^ (i + 1), by rw [HO.out], by rw [HV.out], by go_num, (by rw [HP.out]; exact (rfl : at' + i + 1 = at' + (i + 1))), rfl, hlt, hi8, acc_lt (s[p]) HA.out, HM.out, rfl⟩
              case measure => simp [intOf]; omega
        · by_cases el : (s[p].toNat : Int) < 128
          · have HL : Hid (rdNum 0 0 (s.data.toList.drop at') = (acc + (s[p]).toNat % 128 * 128 ^ i, i + 1, 0)) := rs_last hrs (get_at s at' i p HP.out hlt) (by omega) (by omega)
            have HO : Hid (IntKind.u64.wrap ((acc : Int) + IntKind.u64.wrap (((s[p]).toNat : Int) % 128 * (unit : Int))) = ((acc + (s[p]).toNat % 128 * 128 ^ i : Nat) : Int)) := add_val (s[p]) acc i unit HU.out HA.out hi9 (by omega)
            go_wp2
            exact bodyPost_ret (v := .tuple #[.agg #[.string s, .int .i64 ((p : Int) + 1), .int .i64 0], .int .u64 (IntKind.u64.wrap ((acc : Int) + IntKind.u64.wrap (((s[p]).toNat : Int) % 128 * (unit : Int))))]) (by simp [results, Tryd.results51, go_sem]) rfl (cfin_last HP.out (fin_eq HR.out HL.out) HO.out (bel2 w _ _))
          · have hi8 : i < 9 := by omega
            have HM : Hid (RS (s.data.toList.drop at') (i + 1) (acc + (s[p]).toNat % 128 * 128 ^ i)) := rs_more hrs (get_at s at' i p HP.out hlt) (by omega) (by omega)
            have HO : Hid (IntKind.u64.wrap ((acc : Int) + IntKind.u64.wrap (((s[p]).toNat : Int) % 128 * (unit : Int))) = ((acc + (s[p]).toNat % 128 * 128 ^ i : Nat) : Int)) := add_val (s[p]) acc i unit HU.out HA.out hi9 (by omega)
            have HV : Hid (IntKind.u64.wrap ((unit : Int) * 128) = ((128 ^ (i + 1) : Nat) : Int)) := unit_val i unit HU.out hi8
            clear hrs
            go_wp2
            go_roundw
            case rel => exact ⟨i + 1, acc + (s[p]).toNat % 128 * 128 ^ i, p + 1, 128 ^ (i + 1), by rw [HO.out], by rw [HV.out], by go_num, (by rw [HP.out]; exact (rfl : at' + i + 1 = at' + (i + 1))), rfl, hlt, hi8, acc_lt (s[p]) HA.out, HM.out, rfl⟩
            case measure => simp [intOf]; omega
    · have hnl : (s.size : Int) ≤ (p : Int) := by omega
      have HE : Hid (rdNum 0 0 (s.data.toList.drop at') = (0, i, 10)) := rs_end hrs (by simp; have := HP.out; omega)
      clear hrs
      go_wp2
      exact bodyPost_ret (v := .tuple #[curV s p 10, .int .u64 0]) (by simp [results, Tryd.results51, go_sem]) rfl (cfin_bad HP.out (fin_eq HR.out HE.out) (bel2 w _ _))
end Go.Proofs.YtakfinccoffplaaDoor

/- The document's ReadInt, ReadBelow, ReadText, Done. -/
namespace Go.Proofs.YtakfinccoffplaaDoor
open Go.ChangeShapes Go.WideShapes Go.ChangeAt Go.RowKit
set_option linter.unusedVariables false

theorem two_blocks {w w1 : World} {a0 a1 a2 b0 b1 b2 : Value} {T U : TypeId} (hb : Below ((w.alloc (.cells #[a0, a1, a2] T)).alloc (.cells #[b0, b1, b2] U)).heap.size ((w.alloc (.cells #[a0, a1, a2] T)).alloc (.cells #[b0, b1, b2] U)) w1) :
    w1.cell? ⟨w.heap.size, 0, none⟩ = some a0 ∧ w1.cell? ⟨w.heap.size, 1, none⟩ = some a1 ∧ w1.cell? ⟨w.heap.size, 2, none⟩ = some a2
    ∧ w1.cell? ⟨w.heap.size + 1, 0, none⟩ = some b0 ∧ w1.cell? ⟨w.heap.size + 1, 1, none⟩ = some b1 ∧ w1.cell? ⟨w.heap.size + 1, 2, none⟩ = some b2
    ∧ (∀ o, w1.frozen? ⟨w.heap.size, o, none⟩ = false) ∧ (∀ o, w1.frozen? ⟨w.heap.size + 1, o, none⟩ = false) := by
  have k0 : ∀ o, w1.cell? ⟨w.heap.size, o, none⟩ = _ := fun o => hb.cell (p := ⟨w.heap.size, o, none⟩) (by simp; omega)
  have k1 : ∀ o, w1.cell? ⟨w.heap.size + 1, o, none⟩ = _ := fun o => hb.cell (p := ⟨w.heap.size + 1, o, none⟩) (by simp)
  have f0 : ∀ o, w1.frozen? ⟨w.heap.size, o, none⟩ = _ := fun o => hb.frozen (p := ⟨w.heap.size, o, none⟩) (by simp; omega)
  have f1 : ∀ o, w1.frozen? ⟨w.heap.size + 1, o, none⟩ = _ := fun o => hb.frozen (p := ⟨w.heap.size + 1, o, none⟩) (by simp)
  refine ⟨?_, ?_, ?_, ?_, ?_, ?_, fun o => ?_, fun o => ?_⟩
  all_goals first | rw [k0] | rw [k1] | rw [f0] | rw [f1]
  all_goals simp [go_sem]
theorem bel2t {w w1 : World} {a b : Obj} (h : Below ((w.alloc a).alloc b).heap.size ((w.alloc a).alloc b) w1) : Below w.heap.size w w1 :=
  (bel2 w a b).trans (h.mono (by simp; omega))

/-- ReadInt, where ReadNumber's answer is known. -/
theorem cint_of (s : ByteArray) (at' c p d m : Nat) (y : Int) (w : World) (hm : m ≤ 18446744073709551615) (hy : y = zag m)
    (H : (∀ w, Calls Tryd.prog 51 #[curV s at' c] w fun e w' => e = .returned (.tuple #[curV s p d, .int .u64 m]) ∧ Below w.heap.size w w')) :
    Calls Tryd.prog 32 #[curV s at' c] w fun e w' => e = .returned (.tuple #[curV s p d, .int .i64 y]) ∧ Below w.heap.size w w' := by
  have hm1 : (m : Int) ≤ 18446744073709551615 := by omega
  have hm0 : (0 : Int) ≤ (m : Int) := by omega
  have HH : Hid (∀ w, Calls Tryd.prog 51 #[curV s at' c] w fun e w' => e = .returned (.tuple #[curV s p d, .int .u64 m]) ∧ Below w.heap.size w w') := H
  clear H
  by_cases ho : ((m : Int) % 2 == 0) = true
  · have HZ : Hid (y = ((m / 2 : Nat) : Int)) := (by rw [hy, zag_even m (by have := beq_iff_eq.1 ho; omega)] : y = ((m / 2 : Nat) : Int))
    clear hy
    go_enter Tryd.func32, Tryd.ntmps32
    go_wp2_with fail
    refine (HH.out _).mono ?_
    rintro e w1 ⟨rfl, hb⟩
    obtain ⟨c0, c1, c2, d0, d1, d2, f0, f1⟩ := two_blocks hb
    have hz : w.heap.size + 1 < w1.heap.size := by have := hb.size; simp at this; omega
    have hz0 : w.heap.size < w1.heap.size := by omega
    have hB := bel2t hb
    clear hb
    go_wp2
    refine bodyPost_ret (v := .tuple #[curV s p d, .int .i64 ((m : Int) / 2)]) (by simp [results, Tryd.results32, go_sem, *]) rfl ⟨?_, ?_⟩
    · rw [HZ.out]; rfl
    · go_grown
  · have ho : ((m : Int) % 2 == 0) = false := by simpa using ho
    have HZ : Hid (y = -((m / 2 : Nat) : Int) - 1) := (by rw [hy, zag_odd m (by have := beq_eq_false_iff_ne.1 ho; omega)] : y = -((m / 2 : Nat) : Int) - 1)
    clear hy
    go_enter Tryd.func32, Tryd.ntmps32
    go_wp2_with fail
    refine (HH.out _).mono ?_
    rintro e w1 ⟨rfl, hb⟩
    obtain ⟨c0, c1, c2, d0, d1, d2, f0, f1⟩ := two_blocks hb
    have hz : w.heap.size + 1 < w1.heap.size := by have := hb.size; simp at this; omega
    have hz0 : w.heap.size < w1.heap.size := by omega
    have hB := bel2t hb
    clear hb
    go_wp2
    refine bodyPost_ret (v := .tuple #[curV s p d, .int .i64 (-((m : Int) / 2) - 1)]) (by simp [results, Tryd.results32, go_sem, *]) rfl ⟨?_, ?_⟩
    · rw [HZ.out]; rfl
    · go_grown

theorem cbelow_err (s : ByteArray) (at' c p d : Nat) (y most : Int) (w : World) (hd : d ≠ 0)
    (H : (∀ w, Calls Tryd.prog 32 #[curV s at' c] w fun e w' => e = .returned (.tuple #[curV s p d, .int .i64 y]) ∧ Below w.heap.size w w')) :
    Calls Tryd.prog 35 #[curV s at' c, .int .i64 most] w fun e w' => e = .returned (.tuple #[curV s p d, .int .i64 0]) ∧ Below w.heap.size w w' := by
  have HH : Hid (∀ w, Calls Tryd.prog 32 #[curV s at' c] w fun e w' => e = .returned (.tuple #[curV s p d, .int .i64 y]) ∧ Below w.heap.size w w') := H
  clear H
  have hb : ((d : Int) != 0) = true := bne_iff_ne.2 (by omega)
  go_enter Tryd.func35, Tryd.ntmps35
  go_wp2_with fail
  refine (HH.out _).mono ?_
  rintro e w1 ⟨rfl, hb⟩
  obtain ⟨c0, c1, c2, d0, d1, d2, f0, f1⟩ := two_blocks hb
  have hz : w.heap.size + 1 < w1.heap.size := by have := hb.size; simp at this; omega
  have hz0 : w.heap.size < w1.heap.size := by omega
  have hB := bel2t hb
  clear hb
  go_wp2
  refine bodyPost_ret (v := .tuple #[curV s p d, .int .i64 0]) (by simp [results, Tryd.results35, go_sem, *]) rfl ⟨?_, ?_⟩
  · rfl
  · go_grown

theorem cbelow_arg (s : ByteArray) (at' p : Nat) (y most : Int) (w : World) (hm : y < 0 ∨ most ≤ y)
    (H : (∀ w, Calls Tryd.prog 32 #[curV s at' 0] w fun e w' => e = .returned (.tuple #[curV s p 0, .int .i64 y]) ∧ Below w.heap.size w w')) :
    Calls Tryd.prog 35 #[curV s at' 0, .int .i64 most] w fun e w' => e = .returned (.tuple #[curV s at' 1, .int .i64 0]) ∧ Below w.heap.size w w' := by
  have HH : Hid (∀ w, Calls Tryd.prog 32 #[curV s at' 0] w fun e w' => e = .returned (.tuple #[curV s p 0, .int .i64 y]) ∧ Below w.heap.size w w') := H
  clear H
  rcases Int.lt_or_le y 0 with hn0 | hn0
  · clear hm
    go_enter Tryd.func35, Tryd.ntmps35
    go_wp2_with fail
    refine (HH.out _).mono ?_
    rintro e w1 ⟨rfl, hb⟩
    obtain ⟨c0, c1, c2, d0, d1, d2, f0, f1⟩ := two_blocks hb
    have hz : w.heap.size + 1 < w1.heap.size := by have := hb.size; simp at this; omega
    have hz0 : w.heap.size < w1.heap.size := by omega
    have hB := bel2t hb
    clear hb
    go_wp2
    refine bodyPost_ret (v := .tuple #[curV s at' 1, .int .i64 0]) (by simp [results, Tryd.results35, go_sem, *]) rfl ⟨?_, ?_⟩
    · rfl
    · go_grown
  · have hn1 : most ≤ y := by omega
    clear hm
    go_enter Tryd.func35, Tryd.ntmps35
    go_wp2_with fail
    refine (HH.out _).mono ?_
    rintro e w1 ⟨rfl, hb⟩
    obtain ⟨c0, c1, c2, d0, d1, d2, f0, f1⟩ := two_blocks hb
    have hz : w.heap.size + 1 < w1.heap.size := by have := hb.size; simp at this; omega
    have hz0 : w.heap.size < w1.heap.size := by omega
    have hB := bel2t hb
    clear hb
    go_wp2
    refine bodyPost_ret (v := .tuple #[curV s at' 1, .int .i64 0]) (by simp [results, Tryd.results35, go_sem, *]) rfl ⟨?_, ?_⟩
    · rfl
    · go_grown

theorem cbelow_ok (s : ByteArray) (at' p : Nat) (y most : Int) (w : World) (h0 : 0 ≤ y) (hm : y < most)
    (H : (∀ w, Calls Tryd.prog 32 #[curV s at' 0] w fun e w' => e = .returned (.tuple #[curV s p 0, .int .i64 y]) ∧ Below w.heap.size w w')) :
    Calls Tryd.prog 35 #[curV s at' 0, .int .i64 most] w fun e w' => e = .returned (.tuple #[curV s p 0, .int .i64 y]) ∧ Below w.heap.size w w' := by
  have HH : Hid (∀ w, Calls Tryd.prog 32 #[curV s at' 0] w fun e w' => e = .returned (.tuple #[curV s p 0, .int .i64 y]) ∧ Below w.heap.size w w') := H
  clear H
  go_enter Tryd.func35, Tryd.ntmps35
  go_wp2_with fail
  refine (HH.out _).mono ?_
  rintro e w1 ⟨rfl, hb⟩
  obtain ⟨c0, c1, c2, d0, d1, d2, f0, f1⟩ := two_blocks hb
  have hz : w.heap.size + 1 < w1.heap.size := by have := hb.size; simp at this; omega
  have hz0 : w.heap.size < w1.heap.size := by omega
  have hB := bel2t hb
  clear hb
  go_wp2
  refine bodyPost_ret (v := .tuple #[curV s p 0, .int .i64 y]) (by simp [results, Tryd.results35, go_sem, *]) rfl ⟨?_, ?_⟩
  · rfl
  · go_grown

theorem ctext_err (s : ByteArray) (at' c p d m : Nat) (most : Int) (w : World) (hd : d ≠ 0)
    (H : (∀ w, Calls Tryd.prog 51 #[curV s at' c] w fun e w' => e = .returned (.tuple #[curV s p d, .int .u64 m]) ∧ Below w.heap.size w w')) :
    Calls Tryd.prog 34 #[curV s at' c, .int .i64 most] w fun e w' => e = .returned (.tuple #[curV s p d, .string ByteArray.empty]) ∧ Below w.heap.size w w' := by
  have HH : Hid (∀ w, Calls Tryd.prog 51 #[curV s at' c] w fun e w' => e = .returned (.tuple #[curV s p d, .int .u64 m]) ∧ Below w.heap.size w w') := H
  clear H
  have hb : ((d : Int) != 0) = true := bne_iff_ne.2 (by omega)
  go_enter Tryd.func34, Tryd.ntmps34
  go_wp2_with fail
  refine (HH.out _).mono ?_
  rintro e w1 ⟨rfl, hb⟩
  obtain ⟨c0, c1, c2, d0, d1, d2, f0, f1⟩ := two_blocks hb
  have hz : w.heap.size + 1 < w1.heap.size := by have := hb.size; simp at this; omega
  have hz0 : w.heap.size < w1.heap.size := by omega
  have hB := bel2t hb
  clear hb
  go_wp2
  refine bodyPost_ret (v := .tuple #[curV s p d, .string ⟨#[]⟩]) (by simp [results, Tryd.results34, go_sem, *]) rfl ⟨?_, ?_⟩
  · rfl
  · go_grown

set_option maxHeartbeats 1000000 in
theorem ctext_arg (s : ByteArray) (at' p m : Nat) (most : Int) (w : World) (hm : m ≤ 18446744073709551615) (hmost : most ≤ 9223372036854775807) (hn : max most 0 < (m : Int))
    (H : (∀ w, Calls Tryd.prog 51 #[curV s at' 0] w fun e w' => e = .returned (.tuple #[curV s p 0, .int .u64 m]) ∧ Below w.heap.size w w')) :
    Calls Tryd.prog 34 #[curV s at' 0, .int .i64 most] w fun e w' => e = .returned (.tuple #[curV s at' 1, .string ByteArray.empty]) ∧ Below w.heap.size w w' := by
  have HH : Hid (∀ w, Calls Tryd.prog 51 #[curV s at' 0] w fun e w' => e = .returned (.tuple #[curV s p 0, .int .u64 m]) ∧ Below w.heap.size w w') := H
  clear H
  have hm1 : (m : Int) ≤ 18446744073709551615 := by omega
  rcases Int.lt_or_le most 0 with hn0 | hn0
  · have hm0 : (0 : Int) < (m : Int) := by omega
    clear hn
    go_enter Tryd.func34, Tryd.ntmps34
    go_wp2_with fail
    refine (HH.out _).mono ?_
    rintro e w1 ⟨rfl, hb⟩
    obtain ⟨c0, c1, c2, d0, d1, d2, f0, f1⟩ := two_blocks hb
    have hz : w.heap.size + 1 < w1.heap.size := by have := hb.size; simp at this; omega
    have hz0 : w.heap.size < w1.heap.size := by omega
    have hB := bel2t hb
    clear hb
    go_wp2
    refine bodyPost_ret (v := .tuple #[curV s at' 1, .string ⟨#[]⟩]) (by simp [results, Tryd.results34, go_sem, *]) rfl ⟨?_, ?_⟩
    · rfl
    · go_grown
  · have hm0 : most < (m : Int) := by omega
    clear hn
    go_enter Tryd.func34, Tryd.ntmps34
    go_wp2_with fail
    refine (HH.out _).mono ?_
    rintro e w1 ⟨rfl, hb⟩
    obtain ⟨c0, c1, c2, d0, d1, d2, f0, f1⟩ := two_blocks hb
    have hz : w.heap.size + 1 < w1.heap.size := by have := hb.size; simp at this; omega
    have hz0 : w.heap.size < w1.heap.size := by omega
    have hB := bel2t hb
    clear hb
    go_wp2
    refine bodyPost_ret (v := .tuple #[curV s at' 1, .string ⟨#[]⟩]) (by simp [results, Tryd.results34, go_sem, *]) rfl ⟨?_, ?_⟩
    · rfl
    · go_grown

set_option maxHeartbeats 1000000 in
theorem ctext_end (s : ByteArray) (at' p m : Nat) (most : Int) (w : World) (hs : s.size ≤ 1000000) (hm : m ≤ 18446744073709551615) (hmost : most ≤ 9223372036854775807) (hn : (m : Int) ≤ max most 0) (hp : p ≤ s.size) (he : s.size < p + m)
    (H : (∀ w, Calls Tryd.prog 51 #[curV s at' 0] w fun e w' => e = .returned (.tuple #[curV s p 0, .int .u64 m]) ∧ Below w.heap.size w w')) :
    Calls Tryd.prog 34 #[curV s at' 0, .int .i64 most] w fun e w' => e = .returned (.tuple #[curV s p 10, .string ByteArray.empty]) ∧ Below w.heap.size w w' := by
  have HH : Hid (∀ w, Calls Tryd.prog 51 #[curV s at' 0] w fun e w' => e = .returned (.tuple #[curV s p 0, .int .u64 m]) ∧ Below w.heap.size w w') := H
  clear H
  have hm1 : (m : Int) ≤ 18446744073709551615 := by omega
  have hpi : (p : Int) ≤ (s.size : Int) := by omega
  have hei : (s.size : Int) - (p : Int) < (m : Int) := by omega
  have hn0 : ¬ most < 0 := by omega
  have hm0 : (m : Int) ≤ most := by omega
  clear hn
  go_enter Tryd.func34, Tryd.ntmps34
  go_wp2_with fail
  refine (HH.out _).mono ?_
  rintro e w1 ⟨rfl, hb⟩
  obtain ⟨c0, c1, c2, d0, d1, d2, f0, f1⟩ := two_blocks hb
  have hz : w.heap.size + 1 < w1.heap.size := by have := hb.size; simp at this; omega
  have hz0 : w.heap.size < w1.heap.size := by omega
  have hB := bel2t hb
  clear hb
  go_wp2
  refine bodyPost_ret (v := .tuple #[curV s p 10, .string ⟨#[]⟩]) (by simp [results, Tryd.results34, go_sem, *]) rfl ⟨?_, ?_⟩
  · rfl
  · go_grown

set_option maxHeartbeats 1000000 in
theorem ctext_ok (s : ByteArray) (at' p m : Nat) (most : Int) (w : World) (hs : s.size ≤ 1000000) (hm : m ≤ 18446744073709551615) (hmost : most ≤ 9223372036854775807) (hn : (m : Int) ≤ max most 0) (hp : p ≤ s.size) (he : p + m ≤ s.size)
    (H : (∀ w, Calls Tryd.prog 51 #[curV s at' 0] w fun e w' => e = .returned (.tuple #[curV s p 0, .int .u64 m]) ∧ Below w.heap.size w w')) :
    Calls Tryd.prog 34 #[curV s at' 0, .int .i64 most] w fun e w' => e = .returned (.tuple #[curV s (p + m) 0, .string (s.extract p (p + m))]) ∧ Below w.heap.size w w' := by
  have HH : Hid (∀ w, Calls Tryd.prog 51 #[curV s at' 0] w fun e w' => e = .returned (.tuple #[curV s p 0, .int .u64 m]) ∧ Below w.heap.size w w') := H
  clear H
  have hm1 : (m : Int) ≤ 18446744073709551615 := by omega
  have hpi : (p : Int) ≤ (s.size : Int) := by omega
  have hei : (m : Int) ≤ (s.size : Int) - (p : Int) := by omega
  have hsl := slice_mid s p m he
  rcases Int.lt_or_le most 0 with hn0 | hn0
  · have hm0 : ¬ (0 : Int) < (m : Int) := by omega
    clear hn
    go_enter Tryd.func34, Tryd.ntmps34
    go_wp2_with fail
    refine (HH.out _).mono ?_
    rintro e w1 ⟨rfl, hb⟩
    obtain ⟨c0, c1, c2, d0, d1, d2, f0, f1⟩ := two_blocks hb
    have hz : w.heap.size + 1 < w1.heap.size := by have := hb.size; simp at this; omega
    have hz0 : w.heap.size < w1.heap.size := by omega
    have hB := bel2t hb
    clear hb
    go_wp2
    refine bodyPost_ret (v := .tuple #[curV s p 0, .string ByteArray.empty]) (by simp [results, Tryd.results34, go_sem, *]) rfl ⟨?_, ?_⟩
    · rfl
    · go_grown
  · have hm0 : (m : Int) ≤ most := by omega
    clear hn
    go_enter Tryd.func34, Tryd.ntmps34
    go_wp2_with fail
    refine (HH.out _).mono ?_
    rintro e w1 ⟨rfl, hb⟩
    obtain ⟨c0, c1, c2, d0, d1, d2, f0, f1⟩ := two_blocks hb
    have hz : w.heap.size + 1 < w1.heap.size := by have := hb.size; simp at this; omega
    have hz0 : w.heap.size < w1.heap.size := by omega
    have hB := bel2t hb
    clear hb
    go_wp2
    refine bodyPost_ret (v := .tuple #[.agg #[.string s, .int .i64 ((p : Int) + (m : Int)), .int .i64 0], .string (s.extract p (p + m))]) (by simp [results, Tryd.results34, go_sem, *]) rfl ⟨?_, ?_⟩
    · rfl
    · go_grown

theorem cdone_left (s : ByteArray) (at' : Nat) (w : World) (h : at' < s.size) :
    Calls Tryd.prog 36 #[curV s at' 0] w fun e w' => e = .returned (curV s at' 11) ∧ Below w.heap.size w w' := by
  have h : (at' : Int) < (s.size : Int) := by omega
  go_enter Tryd.func36, Tryd.ntmps36
  go_wp2
  exact bodyPost_ret (v := curV s at' 11) (by simp [results, Tryd.results36, go_sem]) rfl ⟨rfl, bel2 w _ _⟩
theorem cdone_same (s : ByteArray) (at' c : Nat) (w : World) (h : c ≠ 0 ∨ s.size ≤ at') :
    Calls Tryd.prog 36 #[curV s at' c] w fun e w' => e = .returned (curV s at' c) ∧ Below w.heap.size w w' := by
  by_cases h0 : c = 0
  · subst h0
    have h : ¬ (at' : Int) < (s.size : Int) := by omega
    go_enter Tryd.func36, Tryd.ntmps36
    go_wp2
    exact bodyPost_ret (v := curV s at' 0) (by simp [results, Tryd.results36, go_sem]) rfl ⟨rfl, bel2 w _ _⟩
  · have hb : ((c : Int) == 0) = false := beq_eq_false_iff_ne.2 (by omega)
    go_enter Tryd.func36, Tryd.ntmps36
    go_wp2
    exact bodyPost_ret (v := curV s at' c) (by simp [results, Tryd.results36, go_sem]) rfl ⟨rfl, bel2 w _ _⟩
end Go.Proofs.YtakfinccoffplaaDoor

/- The document's cursor told by what is left of its bytes and its code. -/
namespace Go.Proofs.YtakfinccoffplaaDoor
open Go.ChangeShapes Go.WideShapes Go.ChangeAt Go.RowKit
set_option linter.unusedVariables false

/-- A cursor's place: what is left behind it. -/
def Pl15 (s : ByteArray) (p : Nat) (st : PS) : Prop := p ≤ s.size ∧ s.data.toList.drop p = st.1

theorem cnum (s : ByteArray) (p : Nat) (l : List UInt8) (h : Pl15 s p (l, 0)) (hs : s.size ≤ 1000000) (w : World) :
    Calls Tryd.prog 51 #[curV s p 0] w fun e w' => e = .returned (.tuple #[curV s (p + (rdNum 0 0 l).2.1) (rdNum 0 0 l).2.2, .int .u64 (rdNum 0 0 l).1]) ∧ Below w.heap.size w w' :=
  cnumber_any s p (rdNum 0 0 l).1 (rdNum 0 0 l).2.1 (rdNum 0 0 l).2.2 w h.1 hs (by rw [h.2])
theorem num_le (l : List UInt8) : (rdNum 0 0 l).1 ≤ 18446744073709551615 := by
  have := rd_lt l (rdNum 0 0 l).1 (rdNum 0 0 l).2.1 (rdNum 0 0 l).2.2 rfl
  omega

theorem cI (s : ByteArray) (p : Nat) (st : PS) (h : Pl15 s p st) (hs : s.size ≤ 1000000) :
    ∃ p', Pl15 s p' (pI st).2 ∧ ∀ w, Calls Tryd.prog 32 #[curV s p st.2] w fun e w' => e = .returned (.tuple #[curV s p' (pI st).2.2, .int .i64 (pI st).1]) ∧ Below w.heap.size w w' := by
  obtain ⟨l, c⟩ := st
  by_cases hc : c = 0
  · subst hc
    have ht := rd_taken 0 0 l
    have hll : l.length = s.size - p := by have e := congrArg List.length h.2; simp at e; omega
    have e : pI (l, 0) = (zag (rdNum 0 0 l).1, (l.drop (rdNum 0 0 l).2.1, (rdNum 0 0 l).2.2)) := by unfold pI; rw [if_pos rfl]
    rw [e]
    refine ⟨p + (rdNum 0 0 l).2.1, ⟨by have := h.1; omega, by rw [← List.drop_drop, h.2]⟩, fun w => ?_⟩
    exact cint_of s p 0 _ _ (rdNum 0 0 l).1 _ w (num_le l) rfl (fun w => cnum s p l h hs w)
  · rw [pI_stuck (l, c) hc]
    exact ⟨p, h, fun w => cint_of s p c p c 0 0 w (by omega) (by decide) (fun w => cnumber_stuck s p c w hc)⟩

theorem cT (s : ByteArray) (p : Nat) (st : PS) (h : Pl15 s p st) (hs : s.size ≤ 1000000) (most : Nat) (hm : most ≤ 1000000) :
    ∃ p', Pl15 s p' (pT most st).2 ∧ ∀ w, Calls Tryd.prog 34 #[curV s p st.2, .int .i64 (most : Int)] w fun e w' => e = .returned (.tuple #[curV s p' (pT most st).2.2, .string (pT most st).1]) ∧ Below w.heap.size w w' := by
  obtain ⟨l, c⟩ := st
  have hmx : max (most : Int) 0 = (most : Int) := by omega
  by_cases hc : c = 0
  · subst hc
    have h1 := h.1
    have ht := rd_taken 0 0 l
    have hll : l.length = s.size - p := by have e := congrArg List.length h.2; simp at e; omega
    have hd : s.data.toList.drop (p + (rdNum 0 0 l).2.1) = l.drop (rdNum 0 0 l).2.1 := by rw [← List.drop_drop, h.2]
    have hn := num_le l
    have HN := fun w => cnum s p l h hs w
    unfold pT
    rw [if_pos rfl]
    simp only
    by_cases c1 : (rdNum 0 0 l).2.2 = 0
    · rw [if_pos c1]
      rw [c1] at HN
      by_cases c2 : (rdNum 0 0 l).1 ≤ most
      · rw [if_pos c2]
        by_cases c3 : (rdNum 0 0 l).1 ≤ (l.drop (rdNum 0 0 l).2.1).length
        · rw [if_pos c3]
          have c3' := c3
          rw [List.length_drop] at c3'
          refine ⟨p + (rdNum 0 0 l).2.1 + (rdNum 0 0 l).1, ⟨by omega, by show _ = List.drop _ (List.drop _ l); rw [← hd, List.drop_drop]⟩, fun w => ?_⟩
          have := ctext_ok s p (p + (rdNum 0 0 l).2.1) (rdNum 0 0 l).1 most w hs hn (by omega) (by rw [hmx]; omega) (by omega) (by omega) HN
          rw [ext_list, hd] at this
          exact this
        · rw [if_neg c3]
          have c3' := c3
          rw [List.length_drop] at c3'
          exact ⟨p + (rdNum 0 0 l).2.1, ⟨by omega, hd⟩, fun w => ctext_end s p _ (rdNum 0 0 l).1 most w hs hn (by omega) (by rw [hmx]; omega) (by omega) (by omega) HN⟩
      · rw [if_neg c2]
        exact ⟨p, ⟨h1, h.2⟩, fun w => ctext_arg s p _ (rdNum 0 0 l).1 most w hn (by omega) (by rw [hmx]; omega) HN⟩
    · rw [if_neg c1]
      exact ⟨p + (rdNum 0 0 l).2.1, ⟨by omega, hd⟩, fun w => ctext_err s p 0 _ _ (rdNum 0 0 l).1 most w c1 HN⟩
  · rw [pT_stuck most (l, c) hc]
    exact ⟨p, h, fun w => ctext_err s p c p c 0 most w hc (fun w => cnumber_stuck s p c w hc)⟩

theorem cB (s : ByteArray) (p : Nat) (st : PS) (h : Pl15 s p st) (hs : s.size ≤ 1000000) :
    ∃ p', Pl15 s p' (pB 5 st).2 ∧ ∀ w, Calls Tryd.prog 35 #[curV s p st.2, .int .i64 5] w fun e w' => e = .returned (.tuple #[curV s p' (pB 5 st).2.2, .int .i64 (pB 5 st).1]) ∧ Below w.heap.size w w' := by
  obtain ⟨l, c⟩ := st
  by_cases hc : c = 0
  · subst hc
    have h1 := h.1
    have ht := rd_taken 0 0 l
    have hll : l.length = s.size - p := by have e := congrArg List.length h.2; simp at e; omega
    have hd : s.data.toList.drop (p + (rdNum 0 0 l).2.1) = l.drop (rdNum 0 0 l).2.1 := by rw [← List.drop_drop, h.2]
    have HI : ∀ w, Calls Tryd.prog 32 #[curV s p 0] w fun e w' => e = .returned (.tuple #[curV s (p + (rdNum 0 0 l).2.1) (rdNum 0 0 l).2.2, .int .i64 (zag (rdNum 0 0 l).1)]) ∧ Below w.heap.size w w' :=
      fun w => cint_of s p 0 _ _ (rdNum 0 0 l).1 _ w (num_le l) rfl (fun w => cnum s p l h hs w)
    unfold pB
    rw [if_pos rfl]
    simp only
    by_cases c1 : (rdNum 0 0 l).2.2 = 0
    · rw [if_pos c1]
      rw [c1] at HI
      by_cases c2 : 0 ≤ zag (rdNum 0 0 l).1 ∧ zag (rdNum 0 0 l).1 < 5
      · rw [if_pos c2]
        exact ⟨_, ⟨by omega, hd⟩, fun w => cbelow_ok s p _ _ 5 w c2.1 c2.2 HI⟩
      · rw [if_neg c2]
        exact ⟨p, ⟨h1, h.2⟩, fun w => cbelow_arg s p _ _ 5 w (by omega) HI⟩
    · rw [if_neg c1]
      exact ⟨_, ⟨by omega, hd⟩, fun w => cbelow_err s p 0 _ _ _ 5 w c1 HI⟩
  · have e : pB 5 (l, c) = (0, (l, c)) := by unfold pB; rw [if_neg hc]
    rw [e]
    exact ⟨p, h, fun w => cbelow_err s p c p c 0 5 w hc (fun w => cint_of s p c p c 0 0 w (by omega) (by decide) (fun w => cnumber_stuck s p c w hc))⟩

theorem cD (s : ByteArray) (p : Nat) (st : PS) (h : Pl15 s p st) (w : World) :
    Calls Tryd.prog 36 #[curV s p st.2] w fun e w' => e = .returned (curV s p (dn st)) ∧ Below w.heap.size w w' := by
  obtain ⟨l, c⟩ := st
  unfold dn
  simp only
  by_cases hc : c = 0
  · subst hc
    rw [if_pos rfl]
    by_cases hl : l = []
    · rw [if_pos hl]
      refine cdone_same s p 0 w (.inr ?_)
      have : (s.data.toList.drop p).length = 0 := by rw [h.2, hl]; rfl
      simp at this; omega
    · rw [if_neg hl]
      refine cdone_left s p w ?_
      rcases Nat.lt_or_ge p s.size with q | q
      · exact q
      · exfalso; apply hl
        have := h.2
        simp only at this
        rw [← this]; exact List.drop_eq_nil_of_le (by simpa using q)
  · rw [if_neg hc]
    exact cdone_same s p c w (.inl hc)
end Go.Proofs.YtakfinccoffplaaDoor

/- The document's message that is being read. -/
namespace Go.Proofs.YtakfinccoffplaaDoor
open Go.ChangeShapes Go.WideShapes Go.ChangeAt Go.RowKit
set_option linter.unusedVariables false

/-- The document's Read on its way: its cursor at z4, its message at z7. -/
structure Fs (w wr : World) (z4 z7 : Nat) (s : ByteArray) (p c : Nat) (m : Mg) (fa : Option Addr) (fc : Nat) (va : Option Addr) (vc : Nat) : Prop where
  res : wr.heap[w.heap.size]? = some (.cells #[.int .i64 0, .string ⟨#[]⟩, .bool false, .slice none 0 0, .int .i64 0, .int .i64 0, .int .i64 0, .slice none 0 0, .string ⟨#[]⟩] 37 (0, 0))
  cur : wr.heap[z4]? = some (.cells #[.string s, .int .i64 p, .int .i64 c] 78 (0, 0))
  box : wr.heap[z7]? = some (.cells #[.int .i64 m.kind, .string m.group, .bool m.any, .slice fa m.fl.length fc, .int .i64 m.pub, .int .i64 m.seq, .int .i64 m.hops, .slice va m.vl.length vc, .string m.pay] 37 (0, 0))
  rf : wr.ownsRow (z7 + 1) 9 1 (.slice fa m.fl.length fc) m.fl.length (m.fl.map Value.string)
  rv : wr.ownsRow (z7 + 1) 52 2 (.slice va m.vl.length vc) m.vl.length (m.vl.flatMap Vl.cells)
  ap : ∀ b, (Value.slice fa m.fl.length fc).ownBlock = some b → (Value.slice va m.vl.length vc).ownBlock ≠ some b
  o1 : w.heap.size < z4
  o2 : z4 < z7
  bel : Below w.heap.size w wr
  size : z7 + 1 ≤ wr.heap.size
  small : m.group.size ≤ 9223372036854775807 ∧ m.vl.length ≤ 9223372036854775807 ∧ m.fl.length ≤ 9223372036854775807
  pays : m.pay.size ≤ 9223372036854775807
section
variable {w wr w' : World} {z4 z7 p c p' c' : Nat} {s : ByteArray} {m : Mg} {fa : Option Addr} {fc : Nat} {va : Option Addr} {vc : Nat}
theorem Fs.below (h : Fs w wr z4 z7 s p c m fa fc va vc) (hb : Below wr.heap.size wr w') : Fs w w' z4 z7 s p c m fa fc va vc :=
  have hz := h.size
  have h1 := h.o1
  have h2 := h.o2
  ⟨(hb.block _ (by omega)).trans h.res, (hb.block _ (by omega)).trans h.cur, (hb.block _ (by omega)).trans h.box, row_mv h.rf (fun k hk => hb.block k (h.rf.lt k hk).2), row_mv h.rv (fun k hk => hb.block k (h.rv.lt k hk).2), h.ap, h1, h2,
   h.bel.trans (hb.mono h.bel.size), Nat.le_trans hz hb.size, h.small, h.pays⟩
/-- The cursor is written. -/
theorem Fs.setCur (h : Fs w wr z4 z7 s p c m fa fc va vc) :
    Fs w (((wr.setCell ⟨z4, 0, none⟩ (.string s)).setCell ⟨z4, 1, none⟩ (.int .i64 p')).setCell ⟨z4, 2, none⟩ (.int .i64 c')) z4 z7 s p' c' m fa fc va vc := by
  have hz := h.size
  have h1 := h.o1
  have h2 := h.o2
  have hb : ∀ k, k ≠ z4 → (((wr.setCell ⟨z4, 0, none⟩ (.string s)).setCell ⟨z4, 1, none⟩ (.int .i64 p')).setCell ⟨z4, 2, none⟩ (.int .i64 c')).heap[k]? = wr.heap[k]? := fun k hk => by
    rw [set_other hk, set_other hk, set_other hk]
  refine ⟨(hb _ (by omega)).trans h.res, ?_, (hb _ (by omega)).trans h.box, row_mv h.rf (fun k hk => hb k (by have := (h.rf.lt k hk).1; omega)), row_mv h.rv (fun k hk => hb k (by have := (h.rv.lt k hk).1; omega)), h.ap, h1, h2, ?_, ?_, h.small, h.pays⟩
  · simpa using box_set (i := 2) (box_set (i := 1) (box_set (i := 0) h.cur (.string s)) (.int .i64 p')) (.int .i64 c')
  · have q : w.heap.size ≤ z4 := by omega
    exact ((h.bel.setCell q _).setCell q _).setCell q _
  · simpa [World.setCell] using hz
/-- A cell of the message is written that is none of its rows. -/
theorem Fs.setBox (h : Fs w wr z4 z7 s p c m fa fc va vc) (i : Nat) (v : Value) (m' : Mg) (hf : m'.fl = m.fl) (hv : m'.vl = m.vl) (hg : m'.group = m.group) (hpy : m'.pay.size ≤ 9223372036854775807)
    (hbx : (wr.setCell ⟨z7, i, none⟩ v).heap[z7]? = some (.cells #[.int .i64 m'.kind, .string m'.group, .bool m'.any, .slice fa m'.fl.length fc, .int .i64 m'.pub, .int .i64 m'.seq, .int .i64 m'.hops, .slice va m'.vl.length vc, .string m'.pay] 37 (0, 0))) :
    Fs w (wr.setCell ⟨z7, i, none⟩ v) z4 z7 s p c m' fa fc va vc := by
  have hz := h.size
  have h1 := h.o1
  have h2 := h.o2
  have hb : ∀ k, k ≠ z7 → (wr.setCell ⟨z7, i, none⟩ v).heap[k]? = wr.heap[k]? := fun k hk => set_other hk _
  refine ⟨(hb _ (by omega)).trans h.res, (hb _ (by omega)).trans h.cur, hbx, ?_, ?_, ?_, h1, h2, h.bel.setCell (by show w.heap.size ≤ z7; omega) _, by simpa [World.setCell] using hz, ?_, hpy⟩
  · rw [hf]; exact row_mv h.rf (fun k hk => hb k (by have := (h.rf.lt k hk).1; omega))
  · rw [hv]; exact row_mv h.rv (fun k hk => hb k (by have := (h.rv.lt k hk).1; omega))
  · rw [hf, hv]; exact h.ap
  · rw [hf, hv, hg]; exact h.small
theorem src_str (w : World) (t : ByteArray) (x : Nat) (hx : x = w.heap.size) : Src Tryd.prog 1 22 (.slice (some ⟨x, 0, none⟩) 1 1) 1 [.string t] (w.alloc (.cells #[.string t] 9)) :=
  Src.ofSlice _ Tryd.underlying22 _ 1 1 _ rfl (fun j u hu => by
    subst hx
    have := World.news_of_block (cs := #[.string t]) (t := 9) (fr := (0, 0)) (heap_alloc_new w _) j u (by simpa using hu)
    exact this) (by simp [Value.oneCell'])
/-- A filter more. -/
theorem Fs.stepF {W2 : World} {t : ByteArray} {a' : Option Addr} {d' : Nat} (h : Fs w wr z4 z7 s p c m fa fc va vc)
    (ha : Appended (z7 + 1) 9 (wr.alloc (.cells #[.string t] 9)) W2 (.slice fa m.fl.length fc) (.slice a' (m.fl.length + 1) d') (m.fl.length + 1) (m.fl.map Value.string ++ [.string t])) (hn : m.fl.length + 1 ≤ 9223372036854775807) :
    Fs w (W2.setCell ⟨z7, 3, none⟩ (.slice a' (m.fl.length + 1) d')) z4 z7 s p c ⟨m.kind, m.group, m.any, m.fl ++ [t], m.pub, m.seq, m.hops, m.vl, m.pay⟩ a' d' va vc := by
  have hz := h.size
  have h1 := h.o1
  have h2 := h.o2
  have hold : ∀ k, k < z7 + 1 → (Value.slice fa m.fl.length fc).ownBlock ≠ some k := fun k hk e => by have := (h.rf.lt k e).1; omega
  have hbk : ∀ k, k < wr.heap.size → (Value.slice fa m.fl.length fc).ownBlock ≠ some k → W2.heap[k]? = wr.heap[k]? := fun k hk hne =>
    (ha.grown.block k (by simp; omega) (fun e => hne e.symm)).trans (Below.heap_alloc wr _ k hk)
  have hsz : wr.heap.size ≤ W2.heap.size := by have := ha.grown.size; simp at this; omega
  have hnew : ∀ k, (Value.slice a' (m.fl.length + 1) d').ownBlock = some k → z7 + 1 ≤ k := fun k hk => (ha.row.lt k hk).1
  have hl : (m.fl ++ [t]).length = m.fl.length + 1 := by simp
  refine ⟨?_, ?_, ?_, ?_, ?_, ?_, h1, h2, ?_, by simp [World.setCell]; omega, ⟨h.small.1, h.small.2.1, by show (m.fl ++ [t]).length ≤ _; rw [hl]; exact hn⟩, h.pays⟩
  · rw [set_other (by omega)]; exact (hbk _ (by omega) (hold _ (by omega))).trans h.res
  · rw [set_other (by omega)]; exact (hbk _ (by omega) (hold _ (by omega))).trans h.cur
  · show _ = some (Obj.cells #[.int .i64 m.kind, .string m.group, .bool m.any, .slice a' (m.fl ++ [t]).length d', .int .i64 m.pub, .int .i64 m.seq, .int .i64 m.hops, .slice va m.vl.length vc, .string m.pay] 37 (0, 0))
    rw [hl]
    simpa using box_set (i := 3) ((hbk _ (by omega) (hold _ (by omega))).trans h.box) (.slice a' (m.fl.length + 1) d')
  · show World.ownsRow _ _ _ 1 (.slice a' (m.fl ++ [t]).length d') (m.fl ++ [t]).length ((m.fl ++ [t]).map Value.string)
    rw [hl, List.map_append]
    exact row_mv ha.row (fun k hk => set_other (by have := hnew k hk; omega) _)
  · refine row_mv h.rv (fun k hk => ?_)
    rw [set_other (by have := (h.rv.lt k hk).1; omega)]
    exact hbk k (h.rv.lt k hk).2 (fun e => h.ap k e hk)
  · show ∀ b, (Value.slice a' (m.fl ++ [t]).length d').ownBlock = some b → _
    rw [hl]
    intro b hb e
    rcases ha.new b hb with q | q
    · exact h.ap b q e
    · have := (h.rv.lt b e).2; simp at q; omega
  · refine h.bel.trans ⟨ha.grown.os, ha.grown.tape, ha.grown.output, by simp [World.setCell]; exact hsz, fun k hk => ?_⟩
    rw [set_other (by omega)]
    exact hbk k (by have := h.bel.size; omega) (hold k (by omega))
/-- A value more. -/
theorem Fs.stepV {W2 : World} {x : Vl} {a' : Option Addr} {d' : Nat} (h : Fs w wr z4 z7 s p c m fa fc va vc)
    (ha : Appended2 (z7 + 1) 52 (wr.alloc (.cells #[.int .i64 x.num, .string x.str] 52)) W2 (.slice va m.vl.length vc) (.slice a' (m.vl.length + 1) d') (m.vl.length + 1) (m.vl.flatMap Vl.cells ++ x.cells)) (hn : m.vl.length + 1 ≤ 9223372036854775807) :
    Fs w (W2.setCell ⟨z7, 7, none⟩ (.slice a' (m.vl.length + 1) d')) z4 z7 s p c ⟨m.kind, m.group, m.any, m.fl, m.pub, m.seq, m.hops, m.vl ++ [x], m.pay⟩ fa fc a' d' := by
  have hz := h.size
  have h1 := h.o1
  have h2 := h.o2
  have hold : ∀ k, k < z7 + 1 → (Value.slice va m.vl.length vc).ownBlock ≠ some k := fun k hk e => by have := (h.rv.lt k e).1; omega
  have hbk : ∀ k, k < wr.heap.size → (Value.slice va m.vl.length vc).ownBlock ≠ some k → W2.heap[k]? = wr.heap[k]? := fun k hk hne =>
    (ha.grown.block k (by simp; omega) (fun e => hne e.symm)).trans (Below.heap_alloc wr _ k hk)
  have hsz : wr.heap.size ≤ W2.heap.size := by have := ha.grown.size; simp at this; omega
  have hnew : ∀ k, (Value.slice a' (m.vl.length + 1) d').ownBlock = some k → z7 + 1 ≤ k := fun k hk => (ha.row.lt k hk).1
  have hl : (m.vl ++ [x]).length = m.vl.length + 1 := by simp
  refine ⟨?_, ?_, ?_, ?_, ?_, ?_, h1, h2, ?_, by simp [World.setCell]; omega, ⟨h.small.1, by show (m.vl ++ [x]).length ≤ _; rw [hl]; exact hn, h.small.2.2⟩, h.pays⟩
  · rw [set_other (by omega)]; exact (hbk _ (by omega) (hold _ (by omega))).trans h.res
  · rw [set_other (by omega)]; exact (hbk _ (by omega) (hold _ (by omega))).trans h.cur
  · show _ = some (Obj.cells #[.int .i64 m.kind, .string m.group, .bool m.any, .slice fa m.fl.length fc, .int .i64 m.pub, .int .i64 m.seq, .int .i64 m.hops, .slice a' (m.vl ++ [x]).length d', .string m.pay] 37 (0, 0))
    rw [hl]
    simpa using box_set (i := 7) ((hbk _ (by omega) (hold _ (by omega))).trans h.box) (.slice a' (m.vl.length + 1) d')
  · refine row_mv h.rf (fun k hk => ?_)
    rw [set_other (by have := (h.rf.lt k hk).1; omega)]
    exact hbk k (h.rf.lt k hk).2 (fun e => h.ap k hk e)
  · show World.ownsRow _ _ _ 2 (.slice a' (m.vl ++ [x]).length d') (m.vl ++ [x]).length ((m.vl ++ [x]).flatMap Vl.cells)
    rw [hl, List.flatMap_append]
    have e1 : [x].flatMap Vl.cells = x.cells := by simp
    rw [e1]
    exact row_mv ha.row (fun k hk => set_other (by have := hnew k hk; omega) _)
  · show ∀ b, (Value.slice fa m.fl.length fc).ownBlock = some b → (Value.slice a' (m.vl ++ [x]).length d').ownBlock ≠ some b
    rw [hl]
    intro b hb e
    rcases ha.new b e with q | q
    · exact h.ap b hb q
    · have := (h.rf.lt b hb).2; simp at q; omega
  · refine h.bel.trans ⟨ha.grown.os, ha.grown.tape, ha.grown.output, by simp [World.setCell]; exact hsz, fun k hk => ?_⟩
    rw [set_other (by omega)]
    exact hbk k (by have := h.bel.size; omega) (hold k (by omega))
theorem Fs.rows (h : Fs w wr z4 z7 s p c m fa fc va vc) {l : List UInt8} (hok : l = mB m ∧ chk m = 0 ∧ l.length ≤ 1970 ∧ m.wf) :
    (InRow 1 encS okS ByteArray.empty wr fa m.fl.length m.fl ∧ ∀ x, fa = some x → x.block ≠ w.heap.size) ∧ (InRow 2 Vl.cells Vl.ok vl0 wr va m.vl.length m.vl ∧ ∀ x, va = some x → x.block ≠ w.heap.size) := by
  obtain ⟨q1, q2⟩ := mB_small m hok.2.1 (by rw [← hok.1]; exact hok.2.2.1)
  have h1 := h.o1
  have h2 := h.o2
  have hf := h.rf
  rw [flatS] at hf
  have a1 := own_in encS okS 1 lenS ByteArray.empty hf (fun f hf => by unfold okS; have := q1 f hf; omega) h.small.2.2
  have a2 := own_in Vl.cells Vl.ok 2 Vl.cells_len vl0 h.rv (fun v hv => ⟨hok.2.2.2 v hv, by have := q2 v hv; omega⟩) h.small.2.1
  exact ⟨⟨a1.1, fun x hx => by have := a1.2 x hx; omega⟩, ⟨a2.1, fun x hx => by have := a2.2 x hx; omega⟩⟩
end
/-- An error's value is 0. -/
theorem pI_err (st : PS) (h : (pI st).2.2 ≠ 0) : (pI st).1 = 0 := by
  unfold pI at *
  by_cases hc : st.2 = 0
  · rw [if_pos hc] at h ⊢
    have := rd_err 0 0 st.1 h
    show zag (rdNum 0 0 st.1).1 = 0
    rw [this]; rfl
  · rw [if_neg hc]
end Go.Proofs.YtakfinccoffplaaDoor

/- The document's Read. -/
namespace Go.Proofs.YtakfinccoffplaaDoor
open Go.ChangeShapes Go.WideShapes Go.ChangeAt Go.RowKit
set_option linter.unusedVariables false

theorem three {w : World} {q : Nat} {a b c : Value} {t : TypeId} (h : w.heap[q]? = some (.cells #[a, b, c] t (0, 0))) : w.cell? ⟨q, 0, none⟩ = some a ∧ w.cell? ⟨q, 1, none⟩ = some b ∧ w.cell? ⟨q, 2, none⟩ = some c :=
  ⟨blk_cell (j := 0) h (by simp), blk_cell (j := 1) h (by simp), blk_cell (j := 2) h (by simp)⟩

theorem pT_size (most : Nat) (st : PS) (h : most ≤ 1000000) : (pT most st).1.size ≤ 9223372036854775807 := by
  unfold pT
  split
  · split
    · split
      · split
        · rw [ba_szL, List.length_take]; omega
        · exact Nat.zero_le _
      · exact Nat.zero_le _
    · exact Nat.zero_le _
  · exact Nat.zero_le _
theorem field2 (s : ByteArray) (p d : Nat) (W : World) : Sem.run Tryd.prog (Instr.field 78 (curV s p d) 2) W = .ok (.int .i64 (d : Int)) W := by kernel_rfl

end Go.Proofs.YtakfinccoffplaaDoor
