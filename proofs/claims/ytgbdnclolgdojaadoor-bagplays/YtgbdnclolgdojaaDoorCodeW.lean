/- What code.Writer does: its bytes are those that were there, and the thing's. -/
import Derived.Test.YtgbdnclolgdojaaDoorRows
import Derived.Test.YtgbdnclolgdojaaDoorCodeMath
import Derived.Test.YtgbdnclolgdojaaDoorAid
import Derived.Test.YtgbdnclolgdojaaDoorOwnSrc
import Derived.WalkKit
import Derived.ProofKit
import Derived.OpenShut
import Derived.WalkLawsBesides
import Derived.OneCell
import Derived.Deep.AppendSrc
import Derived.Laws.BitsAllLaws
import Derived.Laws.BytesArg
import Derived.Laws.IdiomStrings
import Derived.Outline
namespace Go.Proofs.YtgbdnclolgdojaaDoor
open Go.ChangeShapes Go.WideShapes Go.ChangeAt Go.RowKit
set_option linter.unusedVariables false

/-- A byte as a cell. -/
def cellU8 (c : UInt8) : Value := .int .u8 (c.toNat : Int)

/-- A writer at block p whose slice is v and whose bytes are l; its memory lies from block B on. -/
structure Wr (B : Nat) (w : World) (p : Nat) (v : Value) (l : List UInt8) : Prop where
  lo : B ≤ p
  box : w.heap[p]? = some (.cells #[v] 135 (0, 0))
  row : w.ownsRow B 5 1 v l.length (l.map cellU8)
  apart : v.ownBlock ≠ some p

/-- What a call on the writer at p (its slice v, then v') leaves as it was. -/
structure Kept (w w' : World) (p : Nat) (v v' : Value) : Prop where
  os : w'.os = w.os
  tape : w'.tape = w.tape
  output : w'.output = w.output
  size : w.heap.size ≤ w'.heap.size
  block : ∀ k, k < w.heap.size → k ≠ p → some k ≠ v.ownBlock → w'.heap[k]? = w.heap[k]?
  own : ∀ k, v'.ownBlock = some k → v.ownBlock = some k ∨ w.heap.size ≤ k

theorem Kept.refl (w : World) (p : Nat) (v : Value) : Kept w w p v v := ⟨rfl, rfl, rfl, Nat.le_refl _, fun _ _ _ _ => rfl, fun _ h => .inl h⟩
theorem Kept.trans {a b c : World} {p : Nat} {u v x : Value} (h : Kept a b p u v) (k : Kept b c p v x) : Kept a c p u x :=
  ⟨k.os.trans h.os, k.tape.trans h.tape, k.output.trans h.output, Nat.le_trans h.size k.size,
   fun i hi hp hu => (k.block i (Nat.lt_of_lt_of_le hi h.size) hp (fun e => by
     rcases h.own i e.symm with h1 | h1
     · exact hu h1.symm
     · omega)).trans (h.block i hi hp hu),
   fun i hi => by
     rcases k.own i hi with h1 | h1
     · exact h.own i h1
     · exact .inr (Nat.le_trans h.size h1)⟩
theorem Kept.below {B : Nat} {a w w' : World} {p : Nat} {v v' : Value} {l : List UInt8} (h : Kept w w' p v v') (hW : Wr B w p v l) (hb : Below B a w) (hB : B ≤ w.heap.size) : Below B a w' :=
  hb.trans ⟨h.os, h.tape, h.output, h.size, fun k hk => h.block k (by omega) (by have := hW.lo; omega) (fun e => by have := (hW.row.lt k e.symm).1; omega)⟩

theorem Wr.lt {B : Nat} {w : World} {p : Nat} {v : Value} {l : List UInt8} (h : Wr B w p v l) : p < w.heap.size := lt_of_block h.box

/-- One append and its store: the writer behind it. -/
theorem Wr.step {B : Nat} {w w1 w2 : World} {p : Nat} {v v' : Value} {l news : List UInt8} {n : Nat} (h : Wr B w p v l) (hB : B ≤ w.heap.size)
    (hg0 : w.grownBy w1 none) (hn : n = l.length + news.length) (ha : Appended B 5 w1 w2 v v' n (l.map cellU8 ++ news.map cellU8)) :
    Wr B (w2.setCell ⟨p, 0, none⟩ v') p v' (l ++ news) ∧ Kept w (w2.setCell ⟨p, 0, none⟩ v') p v v' ∧ B ≤ (w2.setCell ⟨p, 0, none⟩ v').heap.size := by
  have hp := h.lt
  have hg := ha.grown
  have hap : v'.ownBlock ≠ some p := fun e => by
    rcases ha.new p e with h1 | h1
    · exact h.apart h1
    · have := hg0.size; omega
  have hbox : w2.heap[p]? = some (.cells #[v] 135 (0, 0)) :=
    ((hg.block p (Nat.lt_of_lt_of_le hp hg0.size) (fun e => h.apart e.symm)).trans (hg0.block p hp (by simp))).trans h.box
  have hsz : (w2.setCell ⟨p, 0, none⟩ v').heap.size = w2.heap.size := by simp [World.setCell]
  refine ⟨⟨h.lo, one_setCell hbox, ?_, hap⟩, ?_, ?_⟩
  · have := ownsRow_setCell_other ha.row (a := ⟨p, 0, none⟩) hap v'
    subst hn
    simpa using this
  · refine ⟨hg.os.trans hg0.os, hg.tape.trans hg0.tape, hg.output.trans hg0.output, by rw [hsz]; exact Nat.le_trans hg0.size hg.size, fun k hk hkp hkv => ?_, fun k hk => ?_⟩
    · rw [Below.heap_setCell _ _ _ _ (by simpa using hkp)]
      exact (hg.block k (Nat.lt_of_lt_of_le hk hg0.size) hkv).trans (hg0.block k hk (by simp))
    · rcases ha.new k hk with h1 | h1
      · exact .inl h1
      · exact .inr (Nat.le_trans hg0.size h1)
  · rw [hsz]; exact Nat.le_trans hB (Nat.le_trans hg0.size hg.size)

theorem Wr.step1 {B : Nat} {w w1 w2 : World} {p : Nat} {v v' : Value} {l : List UInt8} {c : UInt8} (h : Wr B w p v l) (hB : B ≤ w.heap.size)
    (hg0 : w.grownBy w1 none) (ha : Appended B 5 w1 w2 v v' (l.length + 1) (l.map cellU8 ++ [cellU8 c])) :
    Wr B (w2.setCell ⟨p, 0, none⟩ v') p v' (l ++ [c]) ∧ Kept w (w2.setCell ⟨p, 0, none⟩ v') p v v' ∧ B ≤ (w2.setCell ⟨p, 0, none⟩ v').heap.size :=
  h.step (news := [c]) hB hg0 rfl ha

theorem Wr.box2 {B : Nat} {w w1 w2 : World} {p : Nat} {v v' : Value} {l : List UInt8} {n : Nat} {xs : List Value} (h : Wr B w p v l)
    (hg0 : w.grownBy w1 none) (ha : Appended B 5 w1 w2 v v' n xs) : w2.heap[p]? = some (.cells #[v] 135 (0, 0)) :=
  ((ha.grown.block p (Nat.lt_of_lt_of_le h.lt hg0.size) (fun e => h.apart e.symm)).trans (hg0.block p h.lt (by simp))).trans h.box

theorem Wr.shape {B : Nat} {w : World} {p : Nat} {v : Value} {l : List UInt8} (h : Wr B w p v l) : ∃ a c, v = .slice a l.length c := by
  rcases h.row.2 with ⟨rfl, hn⟩ | ⟨g, cap, cur, rfl, _⟩
  · exact ⟨none, 0, by rw [hn]⟩
  · exact ⟨_, _, rfl⟩

theorem Tryd.info5 : (Tryd.prog.info? 5).map (fun i => (i.zero, i.size, i.bytes)) = some (some (.int .u8 0), 1, 1) := by kernel_rfl

theorem or128 (n : Nat) : bits .or .u8 ((n : Int) % 256) 128 = ((UInt8.ofNat (n % 128 + 128)).toNat : Int) := by
  have h : ∀ x : Fin 256, bits .or .u8 (x.val : Int) 128 = ((x.val % 128 + 128 : Nat) : Int) := by decide +kernel
  have e : (n : Int) % 256 = ((n % 256 : Nat) : Int) := by omega
  rw [e, h ⟨n % 256, by omega⟩, ofNat_toNat _ (by omega)]
  have : n % 256 % 128 = n % 128 := by omega
  simp only [this]

theorem wrap128 (n : Nat) (h : n < 128) : IntKind.u8.wrap (n : Int) = ((UInt8.ofNat n).toNat : Int) := by
  rw [IntKind.wrap_u8, ofNat_toNat n (by omega)]; omega

theorem src_one (w : World) (x : Int) (c : UInt8) (h : x = (c.toNat : Int)) :
    Src Tryd.prog 1 133 (.slice (some ⟨w.heap.size, 0, none⟩) 1 1) 1 [cellU8 c] (w.alloc (.cells #[.int .u8 x] 5)) := by
  subst h
  refine Src.ofSlice _ Tryd.underlying133 _ 1 1 _ rfl ?_ ?_
  · intro j u hu
    match j, hu with
    | 0, hu => simp at hu; subst hu; simp [Addr.add, World.cell?_alloc_new, cellU8]
  · intro u hu; simp at hu; subst hu; rfl

set_option maxRecDepth 100000 in
theorem wnumber_any (B p : Nat) (v : Value) (l : List UInt8) (n : Nat) (w : World) (h : Wr B w p v l) (hB : B ≤ w.heap.size) (hn : n < 18446744073709551616) (hl : l.length ≤ 1000000) :
    Calls Tryd.prog 68 #[.pointer (some ⟨p, 0, none⟩), .int .u64 n] w
      fun e w' => e = .returned (.tuple #[]) ∧ ∃ v', Wr B w' p v' (l ++ numB n) ∧ Kept w w' p v v' := by
  obtain ⟨i0, hi, hz0, hz1, hz2⟩ := info_parts Tryd.info5
  have h10 := numB_len10 n hn
  go_enter Tryd.func68, Tryd.ntmps68
  go_wp2
  go_loopw [1] (fun x wr => ∃ (m : Nat) (acc : List UInt8) (u : Value), x = .int .u64 m ∧ m < 18446744073709551616 ∧ acc ++ numB m = l ++ numB n ∧ Wr B wr p u acc ∧ Kept w wr p v u ∧ B ≤ wr.heap.size)
    (fun x _ => (intOf x).toNat)
  case atStart => exact ⟨n, l, v, rfl, hn, rfl, h, Kept.refl _ _ _, hB⟩
  case round =>
    obtain ⟨m, acc, u, rfl, hm, hacc, hW, hK, hBr⟩ := hrel
    have hlen : acc.length + (numB m).length = l.length + (numB n).length := by simpa using congrArg List.length hacc
    have hpos := numB_pos m
    have hacl : acc.length < 1000011 := by omega
    clear hlen hpos
    have hcell := cell_of_one hW.box
    have hfree := free_of_one hW.box
    have hplt := hW.lt
    have HA : Hid (acc ++ numB m = l ++ numB n) := hacc
    clear hacc
    obtain ⟨ua, uc, hu⟩ := hW.shape
    subst hu
    by_cases hlt : 128 ≤ m
    · obtain ⟨c, hcd⟩ : ∃ c, c = UInt8.ofNat (m % 128 + 128) := ⟨_, rfl⟩
      have H1 : Hid ((acc ++ [c]) ++ numB (m / 128) = l ++ numB n) := by
        have e := HA.out
        rw [numB_big m (by omega), ← hcd] at e
        show (acc ++ [c]) ++ numB (m / 128) = l ++ numB n
        rw [← e, List.append_assoc]; rfl
      have HC : Hid (c = UInt8.ofNat (m % 128 + 128)) := hcd
      clear hcd
      go_wp2_with (at_builtin; refine wpList_own_append _ rfl _ _ 133 133 rfl B 5 i0 (.int .u8 0) 1 Tryd.underlying133 hi hz0 hz1 hz2 rfl _ _ _ rfl (hW.row.alloc _) _ 1 [cellU8 c] rfl ?c0 ?c3 ?c4 ?c5 ?_)
      case c0 => exact src_one wr _ c (by rw [HC.out]; exact or128 m)
      case c3 => unfold maxLen; omega
      case c4 => omega
      case c5 => simp; omega
      intro v' w1 ha
      have hb2 := hW.box2 (World.grownBy_alloc wr _ none) ha
      have hc2 := cell_of_one hb2
      have hf2 := free_of_one hb2
      have hl2 := lt_of_block hb2
      have hst := hW.step1 hBr (World.grownBy_alloc wr _ none) ha
      obtain ⟨a', c', hv'⟩ := ha.shape
      rw [hv'] at hst ⊢
      clear ha hb2 hcell hfree
      go_wp2
      go_roundw
      case rel => exact ⟨m / 128, _, _, rfl, by omega, H1.out, hst.1, hK.trans hst.2.1, hst.2.2⟩
      case measure => simp [intOf]; omega
    · obtain ⟨c, hcd⟩ : ∃ c, c = UInt8.ofNat m := ⟨_, rfl⟩
      have H1 : Hid (acc ++ [c] = l ++ numB n) := by
        have e := HA.out
        rw [numB_small m (by omega), ← hcd] at e
        exact e
      have HC : Hid (c = UInt8.ofNat m) := hcd
      clear hcd
      go_wp2_with (at_builtin; refine wpList_own_append _ rfl _ _ 133 133 rfl B 5 i0 (.int .u8 0) 1 Tryd.underlying133 hi hz0 hz1 hz2 rfl _ _ _ rfl (hW.row.alloc _) _ 1 [cellU8 c] rfl ?d0 ?d3 ?d4 ?d5 ?_)
      case d0 => exact src_one wr _ c (by rw [HC.out, ofNat_toNat m (by omega)])
      case d3 => unfold maxLen; omega
      case d4 => omega
      case d5 => simp; omega
      intro v' w1 ha
      have hb2 := hW.box2 (World.grownBy_alloc wr _ none) ha
      have hc2 := cell_of_one hb2
      have hf2 := free_of_one hb2
      have hl2 := lt_of_block hb2
      have hst := hW.step1 hBr (World.grownBy_alloc wr _ none) ha
      obtain ⟨a', c', hv'⟩ := ha.shape
      rw [hv'] at hst ⊢
      rw [H1.out] at hst
      clear ha hb2 hcell hfree
      go_wp2
      go_end0
      exact ⟨rfl, _, hst.1, hK.trans hst.2.1⟩

theorem wnumber_int (B p : Nat) (v : Value) (l : List UInt8) (x : Int) (n : Nat) (w : World) (h : Wr B w p v l) (hB : B ≤ w.heap.size) (hx : x = n) (hn : n < 18446744073709551616) (hl : l.length ≤ 1000000) :
    Calls Tryd.prog 68 #[.pointer (some ⟨p, 0, none⟩), .int .u64 x] w
      fun e w' => e = .returned (.tuple #[]) ∧ ∃ v', Wr B w' p v' (l ++ numB n) ∧ Kept w w' p v v' := by
  subst hx
  exact wnumber_any B p v l n w h hB hn hl

theorem wint_any (B p : Nat) (v : Value) (l : List UInt8) (n : Int) (w : World) (h : Wr B w p v l) (hB : B ≤ w.heap.size) (h0 : -9223372036854775808 ≤ n) (h1 : n ≤ 9223372036854775807) (hl : l.length ≤ 1000000) :
    Calls Tryd.prog 56 #[.pointer (some ⟨p, 0, none⟩), .int .i64 n] w
      fun e w' => e = .returned (.tuple #[]) ∧ ∃ v', Wr B w' p v' (l ++ numB (zig n)) ∧ Kept w w' p v v' := by
  have hz := zig_lt n h0 h1
  by_cases hn : 0 ≤ n
  · have hzz : Hid (zig n = (2 * n).toNat) := by rw [zig, if_pos hn]; exact (rfl : (2 * n).toNat = (2 * n).toNat)
    go_enter Tryd.func56, Tryd.ntmps56
    go_wp2_with fail
    refine (wnumber_int B p v l _ (zig n) _ h hB ?_ hz hl).mono ?_
    · rw [hzz.out]; omega
    rintro e w' ⟨rfl, hr⟩
    go_wp2
    refine bodyPost_ret (results_none rfl _ _ _) rfl ?_
    exact ⟨rfl, hr⟩
  · have hzz : Hid (zig n = (-2 * n - 1).toNat) := by rw [zig, if_neg hn]; exact (rfl : (-2 * n - 1).toNat = (-2 * n - 1).toNat)
    go_enter Tryd.func56, Tryd.ntmps56
    go_wp2_with fail
    refine (wnumber_int B p v l _ (zig n) _ h hB ?_ hz hl).mono ?_
    · rw [hzz.out]; omega
    rintro e w' ⟨rfl, hr⟩
    go_wp2
    go_end0
    exact ⟨rfl, hr⟩

theorem Wr.stepS {B : Nat} {w w2 : World} {p : Nat} {v v' : Value} {l : List UInt8} (s : ByteArray) (h : Wr B w p v l) (hB : B ≤ w.heap.size)
    (ha : Appended B 5 w w2 v v' (l.length + s.size) (l.map cellU8 ++ byteCells s)) :
    Wr B (w2.setCell ⟨p, 0, none⟩ v') p v' (l ++ s.data.toList) ∧ Kept w (w2.setCell ⟨p, 0, none⟩ v') p v v' ∧ B ≤ (w2.setCell ⟨p, 0, none⟩ v').heap.size :=
  h.step (news := s.data.toList) hB ⟨rfl, rfl, rfl, Nat.le_refl _, fun _ _ _ => rfl⟩ (by simp) ha

set_option maxRecDepth 100000 in
theorem wtext_any (B p : Nat) (v : Value) (l : List UInt8) (s : ByteArray) (w : World) (h : Wr B w p v l) (hB : B ≤ w.heap.size) (hs : s.size ≤ 1000000) (hl : l.length ≤ 900000) :
    Calls Tryd.prog 57 #[.pointer (some ⟨p, 0, none⟩), .string s] w
      fun e w' => e = .returned (.tuple #[]) ∧ ∃ v', Wr B w' p v' (l ++ (numB s.size ++ s.data.toList)) ∧ Kept w w' p v v' := by
  obtain ⟨i0, hi, hz0, hz1, hz2⟩ := info_parts Tryd.info5
  have h10 := numB_len10 s.size (by omega)
  go_enter Tryd.func57, Tryd.ntmps57
  go_wp2_with fail
  refine (wnumber_int B p v l _ s.size _ h hB rfl (by omega) (by omega)).mono ?_
  rintro e w1 ⟨rfl, u, hW, hK⟩
  have hBr : B ≤ w1.heap.size := Nat.le_trans hB hK.size
  have hcell := cell_of_one hW.box
  have hfree := free_of_one hW.box
  have hplt := hW.lt
  obtain ⟨acc, hacc⟩ : ∃ acc, acc = l ++ numB s.size := ⟨_, rfl⟩
  have hal : acc.length < 900011 := by rw [hacc, List.length_append]; omega
  rw [← hacc] at hW
  have HA : Hid (acc = l ++ numB s.size) := hacc
  clear hacc
  obtain ⟨ua, uc, hu⟩ := hW.shape
  subst hu
  go_wp2_with (at_builtin; refine wpList_own_append _ rfl _ _ 133 9 rfl B 5 i0 (.int .u8 0) 1 Tryd.underlying133 hi hz0 hz1 hz2 rfl _ _ _ rfl hW.row _ s.size (byteCells s) rfl ?c0 ?c3 ?c4 ?c5 ?_)
  case c0 => exact Src.ofString _ Tryd.underlying9 s
  case c3 => unfold maxLen; omega
  case c4 => omega
  case c5 => exact hBr
  intro v' w2 ha
  have hb2 := hW.box2 ⟨rfl, rfl, rfl, Nat.le_refl _, fun _ _ _ => rfl⟩ ha
  have hc2 := cell_of_one hb2
  have hf2 := free_of_one hb2
  have hl2 := lt_of_block hb2
  have hst := hW.stepS s hBr ha
  obtain ⟨a', c', hv'⟩ := ha.shape
  rw [hv'] at hst ⊢
  clear ha hb2 hcell hfree
  go_wp2
  go_end0
  refine ⟨rfl, _, ?_, hK.trans hst.2.1⟩
  have e : l ++ (numB s.size ++ s.data.toList) = acc ++ s.data.toList := by rw [HA.out, List.append_assoc]
  rw [e]
  exact hst.1

theorem bytes_any (B p : Nat) (v : Value) (l : List UInt8) (w : World) (h : Wr B w p v l) :
    Calls Tryd.prog 58 #[.pointer (some ⟨p, 0, none⟩)] w
      fun e w' => e = .returned (.string ⟨l.toArray⟩) ∧ w' = w := by
  have hcell := cell_of_one h.box
  rcases h.row.2 with ⟨rfl, hn⟩ | ⟨g, cap, cur, rfl, hbg, hg, hnc, hcm, hcs, htake⟩
  · have hl : l = [] := List.eq_nil_of_length_eq_zero hn
    subst hl
    have hcv := run_convert_bytes_nil (P := Tryd.prog) w 133 5 Tryd.underlying133 Tryd.underlying5 0 0
    go_enter Tryd.func58, Tryd.ntmps58
    go_wp2
    go_ret
    exact ⟨rfl, rfl⟩
  · have hcv := run_convert_bytes_back (P := Tryd.prog) w 133 9 5 ⟨g, 0, none⟩ cap l Tryd.underlying133 Tryd.underlying5 Tryd.underlying9 (fun j hj => by
      have := h.row.cells (g := g) rfl j (cellU8 l[j]) (by simp [hj])
      exact this)
    go_enter Tryd.func58, Tryd.ntmps58
    go_wp2
    go_ret
    exact ⟨rfl, rfl⟩

end Go.Proofs.YtgbdnclolgdojaaDoor
