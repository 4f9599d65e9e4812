/- A window in memory: a map behind a pointer; keep, Last, Come. -/
import Derived.Test.YtffdknjocmfmfaaRows
import Derived.Test.YtffdknjocmfmfaaWiMath
import Derived.Test.YtffdknjocmfmfaaChMap
import Derived.Test.YtffdknjocmfmfaaAid
import Derived.WalkKit
import Derived.ProofKit
import Derived.OpenShut
import Derived.WalkLawsBesides
import Derived.Outline
import Derived.Below
import Derived.BigRegion
namespace Go.Proofs.Ytffdknjocmfmfaa
open Go.ChangeShapes Go.WideShapes Go.ChangeAt Go.RowKit
set_option linter.unusedVariables false

/-- What a map says of all publishers. -/
def SaysL (m : List (Int × Value)) (L : List (Int × Int)) : Prop :=
  ∀ p, (look m p = none → ∀ n, (p, n) ∉ L) ∧ (∀ v, look m p = some v → ∃ c : Nat, v = .agg #[.int .i64 (lastL L p), .int .u64 c] ∧ BitsAt L p (lastL L p) c)
def MapW (w : World) : Option Nat → List (Int × Int) → Prop
  | none, L => L = []
  | some g, L => ∃ m, MpAt w g m ∧ SaysL m L
/-- A window lies in a block; its map, if it has one, in another. -/
structure WinAt (w : World) (r : Nat) (g : Option Nat) (L : List (Int × Int)) : Prop where
  box : w.heap[r]? = some (.cells #[.map g] 43 (0, 0))
  wok : WOk L
  map : MapW w g L

/-- What stays but for some blocks. -/
structure Kw (w w' : World) (S : Nat → Prop) : Prop where
  os : w'.os = w.os
  tape : w'.tape = w.tape
  output : w'.output = w.output
  size : w.heap.size ≤ w'.heap.size
  block : ∀ b, b < w.heap.size → ¬ S b → w'.heap[b]? = w.heap[b]?
/-- The blocks of a window. -/
def winB (r : Nat) (g : Option Nat) (b : Nat) : Prop := b = r ∨ g = some b
theorem Kw.refl (w : World) (S : Nat → Prop) : Kw w w S := ⟨rfl, rfl, rfl, Nat.le_refl _, fun _ _ _ => rfl⟩
theorem Kw.trans {a b c : World} {S : Nat → Prop} (h : Kw a b S) (h' : Kw b c S) : Kw a c S :=
  ⟨h'.os.trans h.os, h'.tape.trans h.tape, h'.output.trans h.output, Nat.le_trans h.size h'.size, fun x hx hs => (h'.block x (Nat.lt_of_lt_of_le hx h.size) hs).trans (h.block x hx hs)⟩
theorem Kw.mono {a b : World} {S S' : Nat → Prop} (h : Kw a b S) (hs : ∀ x, x < a.heap.size → S x → S' x) : Kw a b S' :=
  ⟨h.os, h.tape, h.output, h.size, fun x hx q => h.block x hx (fun e => q (hs x hx e))⟩
theorem Kw.ofBelow {a b : World} {S : Nat → Prop} (h : Below a.heap.size a b) : Kw a b S := ⟨h.os, h.tape, h.output, h.size, fun x hx _ => h.block x hx⟩
theorem Kw.below {w w' : World} {S : Nat → Prop} {B : Nat} (h : Kw w w' S) (hs : ∀ b, S b → B ≤ b) (hB : B ≤ w.heap.size) : Below B w w' :=
  ⟨h.os, h.tape, h.output, h.size, fun x hx => h.block x (by omega) (fun q => by have := hs x q; omega)⟩

theorem WinAt.lt {w : World} {r : Nat} {g : Option Nat} {L : List (Int × Int)} (h : WinAt w r g L) : r < w.heap.size := by
  rcases Nat.lt_or_ge r w.heap.size with q | q
  · exact q
  · have := h.box; rw [Array.getElem?_eq_none q] at this; cases this
theorem WinAt.lt2 {w : World} {r g : Nat} {L : List (Int × Int)} (h : WinAt w r (some g) L) : g < w.heap.size := by
  obtain ⟨m, hm, _⟩ := h.map
  exact hm.lt
theorem WinAt.ne {w : World} {r g : Nat} {L : List (Int × Int)} (h : WinAt w r (some g) L) : r ≠ g := by
  obtain ⟨m, ⟨_, es, c, hb, _⟩, _⟩ := h.map
  intro e
  have := h.box
  rw [e, hb] at this
  cases this
theorem WinAt.cell {w : World} {r : Nat} {g : Option Nat} {L : List (Int × Int)} (h : WinAt w r g L) : w.cell? ⟨r, 0, none⟩ = some (.map g) := by simp [World.cell?, h.box]
theorem WinAt.frozen {w : World} {r : Nat} {g : Option Nat} {L : List (Int × Int)} (h : WinAt w r g L) : w.frozen? ⟨r, 0, none⟩ = false := by simp [World.frozen?, h.box]
/-- A window that nobody writes stays. -/
theorem WinAt.kept {w w' : World} {r : Nat} {g : Option Nat} {L : List (Int × Int)} (h : WinAt w r g L) (hr : w'.heap[r]? = w.heap[r]?) (hg : ∀ x, g = some x → w'.heap[x]? = w.heap[x]?) : WinAt w' r g L := by
  refine ⟨hr.trans h.box, h.wok, ?_⟩
  cases g with
  | none => exact h.map
  | some g =>
    obtain ⟨m, hm, hs⟩ := h.map
    exact ⟨m, hm.of_block (hg g rfl), hs⟩
theorem WinAt.below {w w' : World} {r : Nat} {g : Option Nat} {L : List (Int × Int)} (h : WinAt w r g L) (hb : Below w.heap.size w w') : WinAt w' r g L :=
  h.kept (hb.block _ h.lt) (fun x hx => by subst hx; exact hb.block _ h.lt2)
theorem WinAt.kw {w w' : World} {r : Nat} {g : Option Nat} {L : List (Int × Int)} {S : Nat → Prop} (h : WinAt w r g L) (hk : Kw w w' S) (hs : ∀ b, winB r g b → ¬ S b) : WinAt w' r g L :=
  h.kept (hk.block _ h.lt (hs _ (.inl rfl))) (fun x hx => by subst hx; exact hk.block _ h.lt2 (hs _ (.inr rfl)))
theorem WinAt.blocks {w : World} {r : Nat} {g : Option Nat} {L : List (Int × Int)} (h : WinAt w r g L) {b : Nat} (hb : winB r g b) : b < w.heap.size := by
  rcases hb with rfl | rfl
  · exact h.lt
  · exact h.lt2
theorem WinAt.new (w : World) : WinAt (w.alloc (.cells #[.map none] 43)) w.heap.size none [] := ⟨heap_alloc_new w _, wok_nil, rfl⟩

theorem zero_kn (w : World) : (zeroValue 64).run Try.prog w = .ok (.agg #[.int .i64 0, .int .u64 0]) w := by kernel_rfl
theorem look_nil (p : Int) (w : World) : (Instr.lookup 41 (.map none) (.int .i64 p) false).run Try.prog w = .ok (.agg #[.int .i64 0, .int .u64 0]) w := by
  simp [Instr.lookup, run_underlying Try.underlying41, checkKey_int _ Try.underlying3, Result.andThen, findKey_int (m := []) (es := []) Try.underlying3 p rfl, fnd]
/-- What a look-up answers. -/
theorem WinAt.asked {w : World} {r : Nat} {g : Option Nat} {L : List (Int × Int)} (h : WinAt w r g L) (p : Int) :
    ∃ c : Nat, BitsAt L p (lastL L p) c ∧ (Instr.lookup 41 (.map g) (.int .i64 p) false).run Try.prog w = .ok (.agg #[.int .i64 (lastL L p), .int .u64 c]) w := by
  cases g with
  | none =>
    have e : L = [] := h.map
    subst e
    exact ⟨0, bits_none (by simp) _, look_nil p w⟩
  | some g =>
    obtain ⟨m, hm, hs⟩ := h.map
    cases hl : look m p with
    | none =>
      have hn := (hs p).1 hl
      refine ⟨0, bits_none hn _, ?_⟩
      rw [lastL_none hn]
      exact (run_look_none hm Try.underlying41 Try.underlying3 (zero_kn w) hl).2
    | some v =>
      obtain ⟨c, rfl, hc⟩ := (hs p).2 v hl
      exact ⟨c, hc, (run_look_some hm Try.underlying41 Try.underlying3 hl).2⟩
/-- A store into the map. -/
theorem WinAt.put {w : World} {r g : Nat} {L : List (Int × Int)} (h : WinAt w r (some g) L) {p n : Int} {c : Nat} (hn : EvOk p n) (hc : BitsAt (L ++ [(p, n)]) p (lastL (L ++ [(p, n)]) p) c) :
    ∃ w', (Instr.mapUpdate 41 (.map (some g)) (.int .i64 p) (.agg #[.int .i64 (lastL (L ++ [(p, n)]) p), .int .u64 c])).run Try.prog w = .ok () w' ∧ WinAt w' r (some g) (L ++ [(p, n)]) ∧ Kw w w' (fun b => b = g) := by
  obtain ⟨m, hm, hs⟩ := h.map
  obtain ⟨o, h1, h2⟩ := run_put (P := Try.prog) hm Try.underlying41 Try.underlying3 p (.agg #[.int .i64 (lastL (L ++ [(p, n)]) p), .int .u64 c])
  have hne := h.ne
  have hk : Kw w (setMap w g o) (fun b => b = g) := ⟨rfl, rfl, rfl, by simp [setMap], fun b _ hb => by simp [setMap, Array.getElem?_setIfInBounds_ne (Ne.symm hb)]⟩
  refine ⟨_, h1, ⟨(hk.block r h.lt hne).trans h.box, h.wok.snoc hn, _, h2, fun q => ?_⟩, hk⟩
  rw [look_put]
  by_cases e : q = p
  · subst e
    refine ⟨fun e => by simp at e, fun v hv => ?_⟩
    simp at hv
    exact ⟨c, hv.symm, hc⟩
  · rw [if_neg e]
    have e' : p ≠ q := fun x => e x.symm
    rw [lastL_other L n e']
    refine ⟨fun hl k hk => ?_, fun v hv => ?_⟩
    · rcases List.mem_append.1 hk with hk | hk
      · exact (hs q).1 hl k hk
      · simp at hk; exact e hk.1
    · obtain ⟨c', e1, e2⟩ := (hs q).2 v hv
      exact ⟨c', e1, bits_other e2 e'⟩

theorem cell_blockW {w : World} {a : Addr} {v : Value} (h : w.cell? a = some v) : a.block < w.heap.size := World.block_lt_of_cell? _ _ h
theorem below_oneW (w : World) (o : Obj) : Below w.heap.size w (w.alloc o) := (Below.refl _ _).alloc (Nat.le_refl _) _
theorem WinAt.drew {w : World} {r : Nat} {g : Option Nat} {L : List (Int × Int)} (h : WinAt w r g L) (n : Nat) : WinAt { w with drawn := n } r g L := h.below (w' := { w with drawn := n }) ⟨rfl, rfl, rfl, Nat.le_refl _, fun _ _ => rfl⟩

theorem eq_nilW (g : Option Nat) (w : World) : (binOp .eql 41 (.map g) (.map none)).run Try.prog w = .ok (.bool g.isNone) w := by
  simp only [binOp]
  simp [run_equal_map_nil w _ _ _ g Try.underlying41]

set_option maxHeartbeats 2000000 in
theorem keep_some (r g : Nat) (L : List (Int × Int)) (p n : Int) (last : Int) (c : Nat) (w : World) (h : WinAt w r (some g) L) (hn : EvOk p n) (hl : lastL (L ++ [(p, n)]) p = last) (hc : BitsAt (L ++ [(p, n)]) p last c) :
    Calls Try.prog 25 #[.pointer (some ⟨r, 0, none⟩), .int .i64 p, .agg #[.int .i64 last, .int .u64 c]] w fun e w' => e = .returned (.tuple #[]) ∧ WinAt w' r (some g) (L ++ [(p, n)]) ∧ Kw w w' (winB r (some g)) := by
  subst hl
  obtain ⟨l, hl⟩ : ∃ l, l = lastL (L ++ [(p, n)]) p := ⟨_, rfl⟩
  obtain ⟨W1, hW1⟩ : ∃ W1, W1 = w.alloc (.cells #[.int .i64 l, .int .u64 c] 64) := ⟨_, rfl⟩
  have b1 : Below w.heap.size w W1 := by rw [hW1]; exact below_oneW _ _
  have h1 := h.below b1
  have k0 : W1.cell? ⟨w.heap.size, 0, none⟩ = some (.int .i64 l) := by rw [hW1]; simp
  have k1 : W1.cell? ⟨w.heap.size, 1, none⟩ = some (.int .u64 c) := by rw [hW1]; simp
  obtain ⟨w2, e2, h2, kp2⟩ := (h1.drew (W1.drawn + 1)).put hn hc
  have e2' : (Instr.mapUpdate 41 (.map (some g)) (.int .i64 p) (.agg #[.int .i64 l, .int .u64 c])).run Try.prog W1.drew = .ok () w2 := by rw [hl]; exact e2
  have x0 := h1.cell
  have zz := h1.lt
  have x00 := h.cell
  have z0 := h.lt
  have k12 : Kw W1 w2 (winB r (some g)) := (⟨rfl, rfl, rfl, Nat.le_refl _, fun _ _ _ => rfl⟩ : Kw W1 { W1 with drawn := W1.drawn + 1 } (winB r (some g))).trans (kp2.mono (fun x _ q => .inr (by rw [q])))
  have HR : Hid (WinAt w2 r (some g) (L ++ [(p, n)]) ∧ Kw w w2 (winB r (some g))) := ⟨h2, (Kw.ofBelow b1).trans k12⟩
  clear h h1 h2 e2 kp2 b1 k12 hc hn
  rw [← hl]
  clear hl
  have hq := fun w => eq_nilW (some g) w
  go_enter Try.func25, Try.ntmps25
  go_wp2
  rw [← hW1]
  clear hW1
  go_region
  go_wp2
  go_end0
  exact ⟨rfl, HR.out⟩

/-- The first event makes the map. -/
theorem WinAt.made {w : World} {r : Nat} (h : WinAt w r none []) (o : Obj) :
    WinAt (((w.setCell ⟨r, 0, none⟩ (.map (some (w.heap.size + 1)))).alloc o).alloc (.map #[] 0)) r (some (w.heap.size + 1)) [] := by
  have hlt := h.lt
  have hbox := h.box
  refine ⟨?_, wok_nil, [], ?_, fun p => ⟨fun _ n => by simp, fun v hv => by simp [look] at hv⟩⟩
  · rw [Below.heap_alloc _ _ _ (by simp [World.setCell]; omega), Below.heap_alloc _ _ _ (by simpa [World.setCell] using hlt)]
    simp only [World.setCell, Array.getElem?_modify]
    rw [hbox]
    simp
  · have := MpAt.made ((w.setCell ⟨r, 0, none⟩ (.map (some (w.heap.size + 1)))).alloc o)
    simpa [World.setCell] using this

set_option maxHeartbeats 2000000 in
theorem keep_none (r : Nat) (p n : Int) (last : Int) (c : Nat) (w : World) (h : WinAt w r none []) (hn : EvOk p n) (hl : lastL ([] ++ [(p, n)]) p = last) (hc : BitsAt ([] ++ [(p, n)]) p last c) :
    Calls Try.prog 25 #[.pointer (some ⟨r, 0, none⟩), .int .i64 p, .agg #[.int .i64 last, .int .u64 c]] w fun e w' => e = .returned (.tuple #[]) ∧ WinAt w' r (some (w.heap.size + 1)) ([] ++ [(p, n)]) ∧ Kw w w' (winB r none) := by
  subst hl
  obtain ⟨l, hl⟩ : ∃ l, l = lastL ([] ++ [(p, n)]) p := ⟨_, rfl⟩
  obtain ⟨W1, hW1⟩ : ∃ W1, W1 = ((w.setCell ⟨r, 0, none⟩ (.map (some (w.heap.size + 1)))).alloc (.cells #[.int .i64 l, .int .u64 c] 64)).alloc (.map #[] 0) := ⟨_, rfl⟩
  have h1 : WinAt W1 r (some (w.heap.size + 1)) [] := by rw [hW1]; exact h.made _
  have kb : W1.heap[w.heap.size]? = some (.cells #[.int .i64 l, .int .u64 c] 64 (0, 0)) := by
    rw [hW1, Below.heap_alloc _ _ _ (by simp [World.setCell])]
    have := heap_alloc_new (w.setCell ⟨r, 0, none⟩ (.map (some (w.heap.size + 1)))) (.cells #[.int .i64 l, .int .u64 c] 64)
    simpa [World.setCell] using this
  have k0 : W1.cell? ⟨w.heap.size, 0, none⟩ = some (.int .i64 l) := by simp [World.cell?, kb]
  have k1 : W1.cell? ⟨w.heap.size, 1, none⟩ = some (.int .u64 c) := by simp [World.cell?, kb]
  have kw : Kw w W1 (winB r none) := by
    rw [hW1]
    refine ⟨rfl, rfl, rfl, by simp [World.setCell]; omega, fun b hb hs => ?_⟩
    rw [Below.heap_alloc _ _ _ (by simp [World.setCell]; omega), Below.heap_alloc _ _ _ (by simpa [World.setCell] using hb)]
    exact Below.heap_setCell _ _ _ _ (fun e => hs (.inl e))
  obtain ⟨w2, e2, h2, kp2⟩ := (h1.drew (W1.drawn + 1)).put hn hc
  have e2' : (Instr.mapUpdate 41 (.map (some (w.heap.size + 1))) (.int .i64 p) (.agg #[.int .i64 l, .int .u64 c])).run Try.prog W1.drew = .ok () w2 := by rw [hl]; exact e2
  have k12 : Kw W1 w2 (fun b => w.heap.size ≤ b) := (⟨rfl, rfl, rfl, Nat.le_refl _, fun _ _ _ => rfl⟩ : Kw W1 { W1 with drawn := W1.drawn + 1 } (fun b => w.heap.size ≤ b)).trans (kp2.mono (fun x _ q => by rw [q]; omega))
  have HR : Hid (WinAt w2 r (some (w.heap.size + 1)) ([] ++ [(p, n)]) ∧ Kw w w2 (winB r none)) := ⟨h2, ⟨k12.os.trans kw.os, k12.tape.trans kw.tape, k12.output.trans kw.output, Nat.le_trans kw.size k12.size, fun b hb hs => (k12.block b (Nat.lt_of_lt_of_le hb kw.size) (by omega)).trans (kw.block b hb hs)⟩⟩
  have x0 := h.cell
  have xf := h.frozen
  have zz := h.lt
  have y0 := h1.cell
  have yz := h1.lt
  have hq := fun w => eq_nilW none w
  have hmm := @run_makeMap Try.prog
  rw [← hl]
  have HW1 : Hid _ := hW1
  clear hl h h1 h2 e2 kp2 k12 kw kb hc hn hW1
  go_enter Try.func25, Try.ntmps25
  go_wp2
  rw [← HW1.out]
  clear HW1 x0 xf zz
  go_region
  go_wp2
  go_end0
  exact ⟨rfl, HR.out⟩

/-- keep: whichever the map. -/
theorem keep_any (r : Nat) (g : Option Nat) (L : List (Int × Int)) (p n : Int) (last : Int) (c : Nat) (w : World) (h : WinAt w r g L) (hn : EvOk p n) (hl : lastL (L ++ [(p, n)]) p = last) (hc : BitsAt (L ++ [(p, n)]) p last c) :
    Calls Try.prog 25 #[.pointer (some ⟨r, 0, none⟩), .int .i64 p, .agg #[.int .i64 last, .int .u64 c]] w fun e w' => e = .returned (.tuple #[]) ∧ ∃ g', WinAt w' r g' (L ++ [(p, n)]) ∧ Kw w w' (winB r g) ∧ (g' = g ∨ ∃ b, g' = some b ∧ w.heap.size ≤ b) := by
  cases g with
  | none =>
    have e : L = [] := h.map
    subst e
    refine (keep_none r p n last c w h hn hl hc).mono ?_
    rintro e w' ⟨rfl, h1, h2⟩
    exact ⟨rfl, _, h1, h2, .inr ⟨_, rfl, by omega⟩⟩
  | some g =>
    refine (keep_some r g L p n last c w h hn hl hc).mono ?_
    rintro e w' ⟨rfl, h1, h2⟩
    exact ⟨rfl, _, h1, h2, .inl rfl⟩

theorem field_kn (l : Int) (c : Nat) (w : World) : (Instr.field 64 (.agg #[.int .i64 l, .int .u64 c]) 0).run Try.prog w = .ok (.int .i64 l) w := by kernel_rfl
end Go.Proofs.Ytffdknjocmfmfaa
