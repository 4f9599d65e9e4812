/- What wigwaglaw02.put and write do: a thing's bytes are written, or told by the document. -/
import Derived.Test.YticdikllfkfkfaaDoorCodeKeep
import Derived.Test.YticdikllfkfkfaaDoorCodeAwake
import Derived.Test.YticdikllfkfkfaaDoorThings
namespace Go.Proofs.YticdikllfkfkfaaDoor
open Go.ChangeShapes Go.WideShapes Go.ChangeAt Go.RowKit
set_option linter.unusedVariables false

/-- A thing's bytes. -/
def Th.bytes (t : Th) : List UInt8 :=
  if t.kind = 1 then numB t.u else if t.kind = 2 ∨ t.kind = 4 then numB (zig t.n) else if t.kind = 3 then numB t.s.size ++ t.s.data.toList else []

theorem Kept.alloc (w : World) (o : Obj) (p : Nat) (v : Value) : Kept w (w.alloc o) p v v :=
  ⟨rfl, rfl, rfl, by simp, fun k hk _ _ => Below.heap_alloc w o k hk, fun k hk => .inl hk⟩

theorem Th.bytes_len (t : Th) (h : t.ok) (hs : t.s.size ≤ 200) : t.bytes.length ≤ 210 := by
  unfold Th.bytes
  obtain ⟨_, hn, hu, _⟩ := h
  have h1 := numB_len10 t.u hu
  have h2 := numB_len10 (zig t.n) (zig_lt t.n hn.1 hn.2)
  have h3 := numB_len10 t.s.size (by omega)
  split
  · omega
  · split
    · omega
    · split
      · simp; omega
      · simp

theorem put_any (B p : Nat) (v : Value) (l : List UInt8) (t : Th) (w : World) (h : Wr B w p v l) (hB : B ≤ w.heap.size) (ht : t.ok) (hs : t.s.size ≤ 200) (hl : l.length ≤ 800000) :
    Calls Tryd.prog 25 #[.pointer (some ⟨p, 0, none⟩), .agg #[.int .i64 t.kind, .int .i64 t.n, .int .u64 t.u, .string t.s]] w
      fun e w' => e = .returned (.tuple #[]) ∧ ∃ v', Wr B w' p v' (l ++ t.bytes) ∧ Kept w w' p v v' := by
  obtain ⟨_, hn, hu, _⟩ := ht
  have hW := h.alloc (.cells #[.int .i64 t.kind, .int .i64 t.n, .int .u64 t.u, .string t.s] 33)
  have hBs : B ≤ (w.alloc (.cells #[.int .i64 t.kind, .int .i64 t.n, .int .u64 t.u, .string t.s] 33)).heap.size := by simp; omega
  by_cases k1 : (t.kind == 1) = true
  · have HB : Hid (t.bytes = numB t.u) := (by rw [Th.bytes, if_pos (beq_iff_eq.1 k1)] : t.bytes = numB t.u)
    go_enter Tryd.func25, Tryd.ntmps25
    go_wp2_with fail
    refine (wnumber_any B p v l t.u _ hW hBs hu (by omega)).mono ?_
    rintro e w' ⟨rfl, v', hW', hK⟩
    go_wp2
    go_end0
    exact ⟨rfl, v', by rw [HB.out]; exact hW', (Kept.alloc _ _ _ _).trans hK⟩
  · have k1 : (t.kind == 1) = false := by simpa using k1
    have n1 : t.kind ≠ 1 := beq_eq_false_iff_ne.1 k1
    by_cases k2 : (t.kind == 2) = true
    · have HB : Hid (t.bytes = numB (zig t.n)) := (by rw [Th.bytes, if_neg n1, if_pos (.inl (beq_iff_eq.1 k2))] : t.bytes = numB (zig t.n))
      clear n1
      go_enter Tryd.func25, Tryd.ntmps25
      go_wp2_with fail
      refine (wint_any B p v l t.n _ hW hBs hn.1 hn.2 (by omega)).mono ?_
      rintro e w' ⟨rfl, v', hW', hK⟩
      go_wp2
      go_end0
      exact ⟨rfl, v', by rw [HB.out]; exact hW', (Kept.alloc _ _ _ _).trans hK⟩
    · have k2 : (t.kind == 2) = false := by simpa using k2
      have n2 : t.kind ≠ 2 := beq_eq_false_iff_ne.1 k2
      by_cases k4 : (t.kind == 4) = true
      · have HB : Hid (t.bytes = numB (zig t.n)) := (by rw [Th.bytes, if_neg n1, if_pos (.inr (beq_iff_eq.1 k4))] : t.bytes = numB (zig t.n))
        clear n1 n2
        go_enter Tryd.func25, Tryd.ntmps25
        go_wp2_with fail
        refine (wint_any B p v l t.n _ hW hBs hn.1 hn.2 (by omega)).mono ?_
        rintro e w' ⟨rfl, v', hW', hK⟩
        go_wp2
        go_end0
        exact ⟨rfl, v', by rw [HB.out]; exact hW', (Kept.alloc _ _ _ _).trans hK⟩
      · have k4 : (t.kind == 4) = false := by simpa using k4
        have n4 : t.kind ≠ 4 := beq_eq_false_iff_ne.1 k4
        have n24 : ¬ (t.kind = 2 ∨ t.kind = 4) := by rintro (h | h); exact n2 h; exact n4 h
        by_cases k3 : (t.kind == 3) = true
        · have HB : Hid (t.bytes = numB t.s.size ++ t.s.data.toList) := (by rw [Th.bytes, if_neg n1, if_neg n24, if_pos (beq_iff_eq.1 k3)] : t.bytes = numB t.s.size ++ t.s.data.toList)
          clear n1 n2 n4 n24
          go_enter Tryd.func25, Tryd.ntmps25
          go_wp2_with fail
          refine (wtext_any B p v l t.s _ hW hBs (by omega) (by omega)).mono ?_
          rintro e w' ⟨rfl, v', hW', hK⟩
          go_wp2
          go_end0
          exact ⟨rfl, v', by rw [HB.out]; exact hW', (Kept.alloc _ _ _ _).trans hK⟩
        · have k3 : (t.kind == 3) = false := by simpa using k3
          have HB : Hid (t.bytes = []) := (by rw [Th.bytes, if_neg n1, if_neg n24, if_neg (beq_eq_false_iff_ne.1 k3)] : t.bytes = [])
          clear n1 n2 n4 n24
          go_enter Tryd.func25, Tryd.ntmps25
          go_wp2
          go_end0
          exact ⟨rfl, v, by rw [HB.out, List.append_nil]; exact hW, Kept.alloc _ _ _ _⟩
end Go.Proofs.YticdikllfkfkfaaDoor
