/- A window, and beside it a row of one's own of pairs that grows. -/
import Derived.Test.YtmnlbheicedloabWiLaw
import Derived.Test.YtmnlbheicedloabWiRow
import Derived.Test.YtmnlbheicedloabOwnSrc2
import Derived.Test.YtmnlbheicedloabRowMath
import Derived.Deep.AppendSrc
import Derived.Deep.AppendLies
import Derived.ChangeKeysEq
namespace Go.Proofs.Ytmnlbheicedloab
open Go.ChangeShapes Go.WideShapes Go.ChangeAt Go.RowKit
set_option linter.unusedVariables false

theorem Try.infoP2 : (Try.prog.info? 30).map (fun i => (i.zero, i.size, i.bytes)) = some (some (.agg #[.int .i64 0, .int .i64 0]), 2, 16) := by kernel_rfl
theorem winfo {P : Program} {t : TypeId} {z : Option Value} {s b : Nat} (h : (P.info? t).map (fun i => (i.zero, i.size, i.bytes)) = some (z, s, b)) : ∃ i, P.info? t = some i ∧ i.zero = z ∧ i.size = s ∧ i.bytes = b := by
  cases hh : P.info? t with
  | none => rw [hh] at h; simp at h
  | some i => rw [hh] at h; simp at h; exact ⟨i, rfl, h.1, h.2.1, h.2.2⟩
theorem src_P2 (w : World) (q : Int × Int) :
    Src Try.prog 2 22 (.slice (some ⟨w.heap.size, 0, none⟩) 1 1) 1 (encP q) (w.alloc (.cells #[.int .i64 q.1, .int .i64 q.2] 30)) :=
  Src.ofSlice _ Try.underlying22 _ 1 1 _ rfl (fun j u hu => by
    have := World.news_of_block (cs := #[.int .i64 q.1, .int .i64 q.2]) (t := 30) (fr := (0, 0)) (heap_alloc_new w _) j u (by simpa [encP] using hu)
    exact this) (by simp [encP, Value.oneCell'])

theorem info_int : ∃ i, Try.prog.info? 3 = some i := by
  cases h : Try.prog.info? 3 with
  | some i => exact ⟨i, rfl⟩
  | none =>
    have q : (Try.prog.info? 3).isSome = true := by kernel_rfl
    rw [h] at q; cases q
theorem cells_int : Try.prog.cellsOf 3 = 1 := by kernel_rfl
theorem part0 (x y : Int) (w : World) : (part 3 #[.int .i64 x, .int .i64 y] 0).run Try.prog w = .ok (.int .i64 x) w := by kernel_rfl
theorem part1 (x y : Int) (w : World) : (part 3 #[.int .i64 x, .int .i64 y] 1).run Try.prog w = .ok (.int .i64 y) w := by kernel_rfl
/-- Two pairs are the same. -/
theorem eq_pair (x0 x1 p n : Int) (w : World) : (binOp .eql 30 (.agg #[.int .i64 x0, .int .i64 x1]) (.agg #[.int .i64 p, .int .i64 n])).run Try.prog w = .ok (.bool (x0 == p && x1 == n)) w := by
  obtain ⟨i, hi⟩ := info_int
  have h : (Op.equal 30 (.agg #[.int .i64 x0, .int .i64 x1]) (.agg #[.int .i64 p, .int .i64 n])).run Try.prog w = .ok (x0 == p && x1 == n) w := by
    show (Op.equalIn (9999 + 1) _ _ _).run _ _ = _
    rw [run_equalIn_array w 9999 _ _ Try.underlying30 hi, cells_int]
    show (Op.eqItems 9999 3 1 _ _ [0, 1]).run _ _ = _
    simp only [Op.eqItems, Sem.run_bind, Nat.zero_mul, Nat.one_mul, part0, Result.andThen_ok]
    rw [run_equalIn_int w 9998 _ _ _ _ _ Try.underlying3]
    by_cases e0 : x0 = p
    · have e0' : (x0 == p) = true := by simpa using e0
      simp only [e0', Result.andThen_ok, Bool.not_true, Bool.false_eq_true, if_false, Sem.run_bind, part1]
      rw [run_equalIn_int w 9998 _ _ _ _ _ Try.underlying3]
      cases e1 : (x1 == n) <;> simp
    · have e0' : (x0 == p) = false := by simpa using e0
      simp [e0']
  simp only [binOp]
  simp [h]
/-- The window, and the row of what was new. -/
structure Onc (w wr : World) (g : Option Nat) (v : Value) (L F : List (Int × Int)) : Prop where
  win : WinAt wr w.heap.size g L
  glo : ∀ b, g = some b → w.heap.size ≤ b
  row : wr.ownsRow w.heap.size 30 2 v F.length (F.flatMap encP)
  ap : ∀ k, v.ownBlock = some k → ¬ winB w.heap.size g k
  bel : Below w.heap.size w wr
theorem row_at {w w' : World} {B : Nat} {e : TypeId} {k n : Nat} {vs : Value} {xs : List Value} (h : w.ownsRow B e k vs n xs) (hb : ∀ x, vs.ownBlock = some x → w'.heap[x]? = w.heap[x]?) : w'.ownsRow B e k vs n xs := by
  refine ⟨h.1, ?_⟩
  rcases h.2 with h1 | ⟨g', cap, cur, hv, hbg, hg, hr⟩
  · exact .inl h1
  · exact .inr ⟨g', cap, cur, hv, hbg, (hb g' (by rw [hv]; rfl)).trans hg, hr⟩
theorem Onc.below {w wr w' : World} {g : Option Nat} {v : Value} {L F : List (Int × Int)} (h : Onc w wr g v L F) (hb : Below wr.heap.size wr w') : Onc w w' g v L F :=
  ⟨h.win.below hb, h.glo, row_at h.row (fun k hk => hb.block k (h.row.lt k hk).2), h.ap, h.bel.trans (hb.mono h.bel.size)⟩
theorem Onc.alloc {w wr : World} {g : Option Nat} {v : Value} {L F : List (Int × Int)} (h : Onc w wr g v L F) (o : Obj) : Onc w (wr.alloc o) g v L F := h.below (below_oneW _ _)
theorem Onc.drew {w wr : World} {g : Option Nat} {v : Value} {L F : List (Int × Int)} (h : Onc w wr g v L F) : Onc w wr.drew g v L F := h.below ⟨rfl, rfl, rfl, Nat.le_refl _, fun _ _ => rfl⟩
theorem Onc.drewN {w wr : World} {g : Option Nat} {v : Value} {L F : List (Int × Int)} (h : Onc w wr g v L F) (n : Nat) : Onc w (wr.drewN n) g v L F := h.below ⟨rfl, rfl, rfl, Nat.le_refl _, fun _ _ => rfl⟩
theorem Onc.come {w wr : World} {g : Option Nat} {v : Value} {L F : List (Int × Int)} (h : Onc w wr g v L F) (p n : Int) (hn : EvOk p n) :
    Calls Try.prog 8 #[.pointer (some ⟨w.heap.size, 0, none⟩), .int .i64 p, .int .i64 n] wr fun e w' => e = .returned (.tuple #[.int .i64 (whatL L p n), .nilIface]) ∧ ∃ g', Onc w w' g' v (comeL L p n) F := by
  refine (come_any w.heap.size g L p n wr h.win hn).mono ?_
  rintro e w' ⟨rfl, g', hg', hk, hor⟩
  have hB := h.bel.size
  refine ⟨rfl, g', hg', fun b hb => ?_, row_at h.row (fun x hx => hk.block x (h.row.lt x hx).2 (h.ap x hx)), fun x hx hw => ?_, h.bel.trans (hk.below ?_ hB)⟩
  · rcases hor with e | ⟨b', e, h'⟩
    · exact h.glo b (by rw [← e]; exact hb)
    · rw [e] at hb; cases hb; omega
  · rcases hw with hw | hw
    · exact h.ap x hx (.inl hw)
    · rcases hor with e | ⟨b', e, h'⟩
      · exact h.ap x hx (.inr (by rw [← e]; exact hw))
      · rw [e] at hw; cases hw; have := (h.row.lt x hx).2; omega
  · rintro b (rfl | hb)
    · exact Nat.le_refl _
    · exact h.glo b hb
theorem Onc.app {w wr w2 : World} {g : Option Nat} {v v' : Value} {L F : List (Int × Int)} {q : Int × Int} (h : Onc w wr g v L F) (ha : Appended2 w.heap.size 30 wr w2 v v' (F.length + 1) (F.flatMap encP ++ encP q)) : Onc w w2 g v' L (F ++ [q]) := by
  have hg := ha.grown
  refine ⟨h.win.kept (hg.block _ h.win.lt (fun e => h.ap _ e.symm (.inl rfl))) (fun x hx => hg.block _ (by subst hx; exact h.win.lt2) (fun e => h.ap _ e.symm (.inr hx))), h.glo, ?_, fun k hk hw => ?_, ?_⟩
  · have := ha.row
    simpa using this
  · rcases ha.new k hk with h1 | h1
    · exact h.ap k h1 hw
    · have := h.win.blocks hw; omega
  · exact h.bel.trans ⟨hg.os, hg.tape, hg.output, hg.size, fun k hk => hg.block k (Nat.lt_of_lt_of_le hk h.bel.size) (fun e => by have := (h.row.lt k e.symm).1; omega)⟩
theorem Onc.new (w : World) : Onc w ((w.alloc (.cells #[.map none] 25)).alloc (.cells #[] 30)) none (.slice (some ⟨w.heap.size + 1, 0, none⟩) 0 0) [] [] := by
  refine ⟨(WinAt.new w).below (below_oneW _ _), (fun b h => by cases h), ⟨rfl, .inr ⟨w.heap.size + 1, 0, #[], rfl, by omega, ?_, Nat.le_refl _, Nat.zero_le _, rfl, rfl⟩⟩, fun k hk => ?_, (below_oneW _ _).alloc (by simp) _⟩
  · have := heap_alloc_new (w.alloc (.cells #[.map none] 25)) (.cells #[] 30)
    simpa using this
  · rintro (h | h)
    · simp [Value.ownBlock] at hk; omega
    · cases h
theorem lt_of_blockW {w : World} {g : Nat} {o : Obj} (h : w.heap[g]? = some o) : g < w.heap.size := by
  rcases Nat.lt_or_ge g w.heap.size with q | q
  · exact q
  · rw [Array.getElem?_eq_none q] at h; cases h
/-- One pair of the row. -/
theorem Onc.at {w wr : World} {g : Option Nat} {a : Option Addr} {len cap : Nat} {L F : List (Int × Int)} (h : Onc w wr g (.slice a len cap) L F) {j : Nat} (hj : j < F.length) :
    ∃ b, a = some ⟨b, 0, none⟩ ∧ b < wr.heap.size ∧ wr.cell? ⟨b, j * 2, none⟩ = some (.int .i64 (F.getD j (0, 0)).1) ∧ wr.cell? ⟨b, j * 2 + 1, none⟩ = some (.int .i64 (F.getD j (0, 0)).2) := by
  rcases h.row.2 with ⟨_, h2⟩ | ⟨gg, c, cur, hv, hbg, hg, hr⟩
  · omega
  · have hc : ∀ k, k < 2 → wr.cell? ⟨gg, j * 2 + k, none⟩ = (encP (F.getD j (0, 0)))[k]? := fun k hk => by
      have hx := flat_get encP 2 lenP (0, 0) F j k hj hk
      have hk' : k < (encP (F.getD j (0, 0))).length := hk
      have e := h.row.cells (g := gg) (by rw [hv]; rfl) (j * 2 + k) ((encP (F.getD j (0, 0)))[k]) (by rw [hx, List.getElem?_eq_getElem hk'])
      have ea : (⟨gg, 0, none⟩ : Addr).add (j * 2 + k) = ⟨gg, j * 2 + k, none⟩ := by unfold Addr.add; split <;> simp_all
      rw [ea] at e
      rw [e, List.getElem?_eq_getElem hk']
    simp only [Value.slice.injEq] at hv
    refine ⟨gg, hv.1, lt_of_blockW hg, ?_, ?_⟩
    · have := hc 0 (by omega); simpa [encP] using this
    · have := hc 1 (by omega); simpa [encP] using this
theorem whatL_new {L : List (Int × Int)} {p n : Int} (h : whatL L p n = 1) : (p, n) ∉ L := by
  unfold whatL at h
  split at h
  · omega
  · split at h
    · omega
    · assumption
end Go.Proofs.Ytmnlbheicedloab
