/- A chord ring in memory: two maps behind a pointer; Lives, Id. -/
import Derived.Test.YtkkkldglceiiiaaGreatPrList
import Derived.Test.YtkkkldglceiiiaaGreatChMap
namespace Go.Proofs.YtkkkldglceiiiaaGreat
open Go.ChangeShapes Go.WideShapes Go.ChangeAt Go.RowKit Go.Deep
set_option linter.unusedVariables false

/-- What a member knows. -/
structure Pe where
  id : Int
  pred : Int
  succ : List Int
/-- A ring: the places of all that are members or were, what each one that lives knows; and, beside it, blocks that its lists keep clear of. -/
structure Rg where
  pl : Int → Option Int
  kn : Int → Option Pe
  cl : Nat → Prop := fun _ => False
def Rg.lives (R : Rg) (n : Int) : Bool := (R.kn n).isSome
def Rg.idOf (R : Rg) (n : Int) : Int := (R.pl n).getD 0
def pe0 : Pe := ⟨0, 0, []⟩
def Rg.know (R : Rg) (n : Int) : Pe := (R.kn n).getD pe0

/-- What a member knows, as a value. -/
def PeV (w : World) (D : Nat → Prop) (p : Pe) (v : Value) : Prop := ∃ a len cap, v = .agg #[.int .u64 p.id, .int .i64 p.pred, .slice a len cap] ∧ PeIn w p.id p.pred a len cap p.succ ∧ ∀ x, a = some x → ¬ D x.block
def KnOk (w : World) (D : Nat → Prop) : Option Pe → Option Value → Prop
  | none, none => True
  | some p, some v => PeV w D p v
  | _, _ => False

structure RingAt (w : World) (r gp gk : Nat) (R : Rg) : Prop where
  box : w.heap[r]? = some (.cells #[.map (some gp), .map (some gk)] 50 (0, 0))
  ne : gp ≠ gk
  places : ∃ m, MpAt w gp m ∧ ∀ k, look m k = (R.pl k).map (Value.int .u64)
  known : ∃ m, MpAt w gk m ∧ ∀ k, KnOk w R.cl (R.kn k) (look m k)
  ids : ∀ k x, R.pl k = some x → u64 x
  old : ∀ b, R.cl b → b < w.heap.size

theorem PeV.below {w w' : World} {D : Nat → Prop} {p : Pe} {v : Value} (h : PeV w D p v) (hb : Below w.heap.size w w') : PeV w' D p v := by
  obtain ⟨a, len, cap, e, h, hd⟩ := h
  exact ⟨a, len, cap, e, h.below (Nat.le_refl _) hb, hd⟩
theorem KnOk.below {w w' : World} {D : Nat → Prop} {p : Option Pe} {v : Option Value} (h : KnOk w D p v) (hb : Below w.heap.size w w') : KnOk w' D p v := by
  cases p <;> cases v <;> first | exact trivial | exact h.elim | exact PeV.below h hb
theorem RingAt.below {w w' : World} {r gp gk : Nat} {R : Rg} (h : RingAt w r gp gk R) (hb : Below w.heap.size w w') : RingAt w' r gp gk R := by
  obtain ⟨mp, hp, hp'⟩ := h.places
  obtain ⟨mk, hk, hk'⟩ := h.known
  have hr : r < w.heap.size := by
    rcases Nat.lt_or_ge r w.heap.size with q | q
    · exact q
    · have := h.box; rw [Array.getElem?_eq_none q] at this; cases this
  exact ⟨(hb.block r hr).trans h.box, h.ne, ⟨mp, hp.of_block (hb.block gp hp.lt), hp'⟩, ⟨mk, hk.of_block (hb.block gk hk.lt), fun k => (hk' k).below hb⟩, h.ids, fun b hb' => Nat.lt_of_lt_of_le (h.old b hb') hb.size⟩
theorem RingAt.lt {w : World} {r gp gk : Nat} {R : Rg} (h : RingAt w r gp gk R) : r < w.heap.size ∧ gp < w.heap.size ∧ gk < w.heap.size := by
  obtain ⟨mp, hp, hp'⟩ := h.places
  obtain ⟨mk, hk, hk'⟩ := h.known
  refine ⟨?_, hp.lt, hk.lt⟩
  rcases Nat.lt_or_ge r w.heap.size with q | q
  · exact q
  · have := h.box; rw [Array.getElem?_eq_none q] at this; cases this
theorem RingAt.c0 {w : World} {r gp gk : Nat} {R : Rg} (h : RingAt w r gp gk R) : w.cell? ⟨r, 0, none⟩ = some (.map (some gp)) := by simp [World.cell?, h.box]
theorem RingAt.c1 {w : World} {r gp gk : Nat} {R : Rg} (h : RingAt w r gp gk R) : w.cell? ⟨r, 1, none⟩ = some (.map (some gk)) := by simp [World.cell?, h.box]

theorem zero_pe (w : World) : (zeroValue 54).run Tryz.prog w = .ok (.agg #[.int .u64 0, .int .i64 0, .slice none 0 0]) w := by kernel_rfl
theorem zero_id (w : World) : (zeroValue 36).run Tryz.prog w = .ok (.int .u64 0) w := by kernel_rfl

/-- What a look-up of a member answers: found, or not. -/
theorem RingAt.found {w : World} {r gp gk : Nat} {R : Rg} (h : RingAt w r gp gk R) {n : Int} {p : Pe} (hn : R.kn n = some p) :
    ∃ a len cap, PeIn w p.id p.pred a len cap p.succ ∧
      (Instr.lookup 48 (.map (some gk)) (.int .i64 n) true).run Tryz.prog w = .ok (.tuple #[.agg #[.int .u64 p.id, .int .i64 p.pred, .slice a len cap], .bool true]) w ∧
      (Instr.lookup 48 (.map (some gk)) (.int .i64 n) false).run Tryz.prog w = .ok (.agg #[.int .u64 p.id, .int .i64 p.pred, .slice a len cap]) w := by
  obtain ⟨mk, hk, hk'⟩ := h.known
  have q := hk' n
  rw [hn] at q
  cases hl : look mk n with
  | none => rw [hl] at q; exact q.elim
  | some v =>
    rw [hl] at q
    obtain ⟨a, len, cap, rfl, hp, _⟩ := q
    exact ⟨a, len, cap, hp, run_look_some hk Tryz.underlying48 Tryz.underlying3 hl⟩
/-- Whatever list a look-up answers keeps clear of them. -/
theorem RingAt.clear {w : World} {r gp gk : Nat} {R : Rg} (h : RingAt w r gp gk R) {n : Int} {v0 v1 : Value} {a : Option Addr} {len cap : Nat}
    (hl : (Instr.lookup 48 (.map (some gk)) (.int .i64 n) false).run Tryz.prog w = .ok (.agg #[v0, v1, .slice a len cap]) w) : ∀ x, a = some x → ¬ R.cl x.block := by
  obtain ⟨mk, hk, hk'⟩ := h.known
  have q := hk' n
  cases hn : look mk n with
  | none =>
    have e := (run_look_none (P := Tryz.prog) hk Tryz.underlying48 Tryz.underlying3 (by kernel_rfl : (zeroValue 54).run Tryz.prog w = .ok (.agg #[.int .u64 0, .int .i64 0, .slice none 0 0]) w) hn).2
    rw [e] at hl
    simp at hl
    intro x hx
    rw [← hl.2.2.1] at hx
    cases hx
  | some v =>
    have e := (run_look_some (P := Tryz.prog) hk Tryz.underlying48 Tryz.underlying3 hn).2
    rw [e] at hl
    cases hp : R.kn n with
    | none => rw [hn, hp] at q; exact q.elim
    | some p =>
      rw [hn, hp] at q
      obtain ⟨a', len', cap', rfl, _, hd⟩ := q
      simp at hl
      intro x hx
      rw [← hl.2.2.1] at hx
      exact hd x hx
theorem RingAt.missed {w : World} {r gp gk : Nat} {R : Rg} (h : RingAt w r gp gk R) {n : Int} (hn : R.kn n = none) :
      (Instr.lookup 48 (.map (some gk)) (.int .i64 n) true).run Tryz.prog w = .ok (.tuple #[.agg #[.int .u64 0, .int .i64 0, .slice none 0 0], .bool false]) w ∧
      (Instr.lookup 48 (.map (some gk)) (.int .i64 n) false).run Tryz.prog w = .ok (.agg #[.int .u64 0, .int .i64 0, .slice none 0 0]) w := by
  obtain ⟨mk, hk, hk'⟩ := h.known
  have q := hk' n
  rw [hn] at q
  cases hl : look mk n with
  | none => exact run_look_none hk Tryz.underlying48 Tryz.underlying3 (zero_pe w) hl
  | some v => rw [hl] at q; exact q.elim
theorem pe0_in (w : World) : PeIn w 0 0 none 0 0 [] := ⟨by simp [u64], by simp [i64], ⟨rfl, by omega, .inl rfl⟩, by omega, by omega, fun _ => rfl⟩
/-- A look-up of a member, of whom nothing is asked first. -/
theorem RingAt.asked {w : World} {r gp gk : Nat} {R : Rg} (h : RingAt w r gp gk R) (n : Int) :
    ∃ a len cap, PeIn w (R.know n).id (R.know n).pred a len cap (R.know n).succ ∧
      (Instr.lookup 48 (.map (some gk)) (.int .i64 n) false).run Tryz.prog w = .ok (.agg #[.int .u64 (R.know n).id, .int .i64 (R.know n).pred, .slice a len cap]) w := by
  cases hn : R.kn n with
  | none => refine ⟨none, 0, 0, ?_, ?_⟩ <;> simp only [Rg.know, hn, Option.getD_none, pe0]; exact pe0_in w; exact (h.missed hn).2
  | some p =>
    obtain ⟨a, len, cap, h1, _, h2⟩ := h.found hn
    refine ⟨a, len, cap, ?_, ?_⟩ <;> simp only [Rg.know, hn, Option.getD_some]; exact h1; exact h2
theorem RingAt.place {w : World} {r gp gk : Nat} {R : Rg} (h : RingAt w r gp gk R) (n : Int) :
    (Instr.lookup 47 (.map (some gp)) (.int .i64 n) false).run Tryz.prog w = .ok (.int .u64 (R.idOf n)) w := by
  obtain ⟨m, hm, hm'⟩ := h.places
  have q := hm' n
  cases hn : R.pl n with
  | none => rw [hn] at q; have := (run_look_none hm Tryz.underlying47 Tryz.underlying3 (zero_id w) q).2; simpa [Rg.idOf, hn] using this
  | some x => rw [hn] at q; have := (run_look_some hm Tryz.underlying47 Tryz.underlying3 q).2; simpa [Rg.idOf, hn] using this
theorem RingAt.was {w : World} {r gp gk : Nat} {R : Rg} (h : RingAt w r gp gk R) (n : Int) :
    (Instr.lookup 47 (.map (some gp)) (.int .i64 n) true).run Tryz.prog w = .ok (.tuple #[.int .u64 (R.idOf n), .bool (R.pl n).isSome]) w := by
  obtain ⟨m, hm, hm'⟩ := h.places
  have q := hm' n
  cases hn : R.pl n with
  | none => rw [hn] at q; have := (run_look_none hm Tryz.underlying47 Tryz.underlying3 (zero_id w) q).1; simpa [Rg.idOf, hn] using this
  | some x => rw [hn] at q; have := (run_look_some hm Tryz.underlying47 Tryz.underlying3 q).1; simpa [Rg.idOf, hn] using this

set_option maxHeartbeats 1000000 in
theorem lives_r (r gp gk : Nat) (R : Rg) (n : Int) (w : World) (h : RingAt w r gp gk R) :
    Calls Tryz.prog 39 #[.pointer (some ⟨r, 0, none⟩), .int .i64 n] w fun e w' => e = .returned (.bool (R.lives n)) ∧ Below w.heap.size w w' := by
  have c0 := h.c0
  have c1 := h.c1
  have z := h.lt.1
  cases hn : R.kn n with
  | none =>
    have q := (h.missed hn).1
    have E : Hid (R.lives n = false) := (by simp [Rg.lives, hn] : R.lives n = false)
    clear h hn
    go_enter Tryz.func39, Tryz.ntmps39
    go_wp2
    go_ret
    exact ⟨ret_b E.out.symm, below_one _ _⟩
  | some p =>
    obtain ⟨a, len, cap, _, q, _⟩ := h.found hn
    have E : Hid (R.lives n = true) := (by simp [Rg.lives, hn] : R.lives n = true)
    clear h hn
    go_enter Tryz.func39, Tryz.ntmps39
    go_wp2
    go_ret
    exact ⟨ret_b E.out.symm, below_one _ _⟩

theorem id_r (r gp gk : Nat) (R : Rg) (n : Int) (w : World) (h : RingAt w r gp gk R) :
    Calls Tryz.prog 25 #[.pointer (some ⟨r, 0, none⟩), .int .i64 n] w fun e w' => e = .returned (.int .u64 (R.idOf n)) ∧ w' = w := by
  have c0 := h.c0
  have z := h.lt.1
  have q := h.place n
  clear h
  go_enter Tryz.func25, Tryz.ntmps25
  go_wp2
  go_ret
  exact ⟨rfl, rfl⟩
end Go.Proofs.YtkkkldglceiiiaaGreat
