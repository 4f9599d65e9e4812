/- wigwaglaw05.Attrs: a schema of at most six attributes, and the same as the document's. -/
import Derived.Test.YtpepbhmdfjpblaaGreatDoorValRows
import Derived.Deep.AppendSrc
import Derived.Deep.RegionHeld3
import Derived.Deep.RegionLaw
import Derived.Deep.AppendLies
namespace Go.Proofs.YtpepbhmdfjpblaaGreatDoor
open Go.ChangeShapes Go.WideShapes Go.ChangeAt Go.RowKit
set_option linter.unusedVariables false

def cutA (a : At) : At := ⟨cut a.name 20, a.kind, a.mn, a.mx⟩
theorem Tryz.infoAt : (Tryz.prog.info? 78).map (fun i => (i.zero, i.size, i.bytes)) = some (some (.agg #[.string ByteArray.empty, .int .i64 0, .int .i64 0, .int .i64 0]), 4, 40) := by kernel_rfl
theorem Tryz.infoRAt : (Tryz.prog.info? 79).map (fun i => (i.zero, i.size, i.bytes)) = some (some (.agg #[.string ByteArray.empty, .int .i64 0, .int .i64 0, .int .i64 0]), 4, 40) := by kernel_rfl

theorem src_At (w : World) (q : At) (x : Nat) (hx : x = w.heap.size) :
    Src Tryz.prog 4 23 (.slice (some ⟨x, 0, none⟩) 1 1) 1 q.cells (w.alloc (.cells #[.string q.name, .int .i64 q.kind, .int .i64 q.mn, .int .i64 q.mx] 78)) :=
  Src.ofSlice _ Tryz.underlying23 _ 1 1 _ rfl (fun j u hu => by
    subst hx
    have := World.news_of_block (cs := #[.string q.name, .int .i64 q.kind, .int .i64 q.mn, .int .i64 q.mx]) (t := 78) (fr := (0, 0)) (heap_alloc_new w _) j u (by simpa [At.cells] using hu)
    exact this) (by simp [At.cells, Value.oneCell'])
theorem src_RAt (w : World) (q : At) (x : Nat) (hx : x = w.heap.size) :
    Src Tryz.prog 4 25 (.slice (some ⟨x, 0, none⟩) 1 1) 1 q.cells (w.alloc (.cells #[.string q.name, .int .i64 q.kind, .int .i64 q.mn, .int .i64 q.mx] 79)) :=
  Src.ofSlice _ Tryz.underlying25 _ 1 1 _ rfl (fun j u hu => by
    subst hx
    have := World.news_of_block (cs := #[.string q.name, .int .i64 q.kind, .int .i64 q.mn, .int .i64 q.mx]) (t := 79) (fr := (0, 0)) (heap_alloc_new w _) j u (by simpa [At.cells] using hu)
    exact this) (by simp [At.cells, Value.oneCell'])
theorem cutA_snoc (t : List At) (i : Nat) (hi : i < t.length) : ((t.take (i + 1)).map cutA).flatMap At.cells = ((t.take i).map cutA).flatMap At.cells ++ (cutA (t.getD i at0)).cells := by
  rw [List.take_succ_eq_append_getElem hi, List.map_append, List.flatMap_append]
  simp [hi]
theorem InRow.get {α : Type} {k : Nat} {enc : α → List Value} {ok : α → Prop} {d : α} {w : World} {a : Option Addr} {len : Nat} {xs : List α} (h : InRow k enc ok d w a len xs) (i : Nat) (hi : i < len) :
    ∃ b o, a = some ⟨b, o, none⟩ ∧ b < w.heap.size ∧ ok (xs.getD i d) ∧ ∀ j, j < k → w.cell? ⟨b, o + i * k + j, none⟩ = (enc (xs.getD i d))[j]? := by
  rcases h.2.2 with h0 | ⟨b, o, ha, hb, hc⟩
  · omega
  · exact ⟨b, o, ha, hb, (hc i hi).1, (hc i hi).2⟩

set_option maxRecDepth 100000 in
set_option maxHeartbeats 1000000 in
theorem attrs_any (a : Option Addr) (len cap : Nat) (t : List At) (w : World) (h : InRow 4 At.cells At.ok at0 w a len t) :
    Calls Tryz.prog 8 #[.slice a len cap] w fun e w' => ∃ v1 v2, e = .returned (.tuple #[v1, v2]) ∧
      Rows2 w.heap.size w w' 78 79 4 v1 v2 ((t.take 6).map cutA).length (((t.take 6).map cutA).flatMap At.cells) (((t.take 6).map cutA).flatMap At.cells) := by
  obtain ⟨i0, hi, hz0, hz1, hz2⟩ := info_parts Tryz.infoAt
  obtain ⟨i1, hj, hy0, hy1, hy2⟩ := info_parts Tryz.infoRAt
  have hlen := h.2.1
  have HL : Hid (t.length = len) := h.1
  have HI : Hid (InRow 4 At.cells At.ok at0 w a len t) := h
  have HS : Hid (Rows2 w.heap.size w ((w.alloc (.cells #[] 78)).alloc (.cells #[] 79)) 78 79 4 (.slice (some ⟨w.heap.size, 0, none⟩) 0 0) (.slice (some ⟨w.heap.size + 1, 0, none⟩) 0 0) 0 [] []) := by
    refine ⟨(World.ownsRow_made w #[] 0 (Nat.le_refl _) (Nat.zero_le _) rfl).alloc _, ?_, fun b hb e => ?_, below2 _ _ _, by simp; omega⟩
    · have := World.ownsRow_made (base := w.heap.size) (e := 79) (size := 4) (w.alloc (.cells #[] 78)) #[] 0 (by simp) (Nat.zero_le _) rfl
      simpa using this
    · simp [Value.ownBlock] at hb e; omega
  clear h
  go_enter Tryz.func8, Tryz.ntmps8
  go_wp2
  go_loopg [4, 5, 6] 6 (fun kx s4 s5 s6 wr => ∃ i : Nat, s6 = .int .i64 i ∧ i ≤ len ∧ i ≤ 6 ∧ kx = 6 - i ∧ (∃ a1 c1, s4 = .slice a1 i c1) ∧ (∃ a2 c2, s5 = .slice a2 i c2) ∧ Hid (Rows2 w.heap.size w wr 78 79 4 s4 s5 i (((t.take i).map cutA).flatMap At.cells) (((t.take i).map cutA).flatMap At.cells)))
  case atStart => exact ⟨0, rfl, Nat.zero_le _, Nat.zero_le _, rfl, ⟨_, _, rfl⟩, ⟨_, _, rfl⟩, by simpa using HS⟩
  case round =>
    obtain ⟨i, rfl, h1, h2, rfl, ⟨a1, c1, rfl⟩, ⟨a2, c2, rfl⟩, R⟩ := hrel
    by_cases hl : i < len
    · by_cases h6 : i < 6
      · obtain ⟨b, o, rfl, hb, hok, hcell⟩ := HI.out.get i hl
        have SN : Hid (((t.take (i + 1)).map cutA).flatMap At.cells = ((t.take i).map cutA).flatMap At.cells ++ (cutA (t.getD i at0)).cells) := cutA_snoc t i (by have := HL.out; omega)
        have hnm : (t.getD i at0).name.size ≤ maxLen := hok.1
        generalize t.getD i at0 = x at hcell hnm SN
        have hbw := R.out.bel
        have hle := R.out.le
        have e : ∀ j, wr.cell? ⟨b, j, none⟩ = w.cell? ⟨b, j, none⟩ := fun j => hbw.cell (p := ⟨b, j, none⟩) hb
        have k0 := hcell 0 (by omega)
        have k1 := hcell 1 (by omega)
        have k2 := hcell 2 (by omega)
        have k3 := hcell 3 (by omega)
        simp only [At.cells, ← e] at k0 k1 k2 k3
        simp at k0 k1 k2 k3
        have hlt : b < wr.heap.size := Nat.lt_of_lt_of_le hb hle
        clear hcell e hok hbw
        go_wp2_with fail
        refine (cut_any x.name 20 _ hnm).mono ?_
        rintro e w' ⟨rfl, hw'⟩
        subst w'
        go_wp2_with (at_builtin; refine wpList_own_append4 _ rfl _ _ 23 23 rfl w.heap.size 78 i0 _ 40 Tryz.underlying23 hi hz0 hz1 hz2 rfl _ _ _ rfl (own_carry R.out.r1 (below2 _ _ _)) _ 1 (cutA x).cells rfl (src_At (wr.alloc _) (cutA x) (wr.heap.size + 1) (by simp)) ?c3 ?c4 ?c5 ?_)
        case c3 => unfold maxLen; omega
        case c4 => omega
        case c5 => simp; omega
        intro v1' W2 ha
        have hbox := R.out.box (wr.heap.size) (Nat.le_refl _) (by simp; omega) ha.grown
        rw [Below.heap_alloc _ _ _ (by simp), heap_alloc_new] at hbox
        have m0 := blk_cell (j := 0) hbox (by simp)
        have m1 := blk_cell (j := 1) hbox (by simp)
        have m2 := blk_cell (j := 2) hbox (by simp)
        have m3 := blk_cell (j := 3) hbox (by simp)
        simp at m0 m1 m2 m3
        have mlt := lt_of_block hbox
        have Q2 : Hid (W2.ownsRow w.heap.size 79 4 (.slice a2 i c2) i (((t.take i).map cutA).flatMap At.cells)) := R.out.mid (below2 _ _ _) ha.grown
        have L2 : Hid (w.heap.size ≤ W2.heap.size) := Nat.le_trans hle (Nat.le_trans (below2 wr _ _).size ha.grown.size)
        obtain ⟨a1', c1', hv1⟩ := ha.shape
        subst hv1
        have HA : Hid _ := ha
        clear ha hbox k0 k1 k2 k3
        go_wp2_with (at_builtin; refine wpList_own_append4 _ rfl _ _ 25 25 rfl w.heap.size 79 i1 _ 40 Tryz.underlying25 hj hy0 hy1 hy2 rfl _ _ _ rfl (own_carry Q2.out (below1 _ _)) _ 1 (cutA x).cells rfl (src_RAt W2 (cutA x) _ rfl) ?d3 ?d4 ?d5 ?_)
        case d3 => unfold maxLen; omega
        case d4 => omega
        case d5 => have := L2.out; simp; omega
        intro v2' W4 ha2
        have hst := R.out.step (below2 _ _ _) HA.out.row HA.out.grown HA.out.new (below1 _ _) ha2.row ha2.grown ha2.new
        obtain ⟨a2', c2', hv2⟩ := ha2.shape
        subst hv2
        have HST : Hid (Rows2 w.heap.size w W4 78 79 4 (.slice a1' (i + 1) c1') (.slice a2' (i + 1) c2') (i + 1) (((t.take (i + 1)).map cutA).flatMap At.cells) (((t.take (i + 1)).map cutA).flatMap At.cells)) := by
          show Rows2 _ _ _ _ _ _ _ _ _ _ _
          rw [SN.out, List.map_take]; exact hst
        clear hst ha2 HA Q2 L2 m0 m1 m2 m3 mlt
        go_wp2
        go_roundg (6 - (i + 1))
        case measure => omega
        case rel => exact ⟨i + 1, by go_num, by omega, by omega, rfl, ⟨_, _, rfl⟩, ⟨_, _, rfl⟩, HST⟩
      · obtain rfl : i = 6 := by omega
        have HE : Hid (((t.take 6).map cutA).length = 6) := (by have := HL.out; simp; omega : ((t.take 6).map cutA).length = 6)
        go_wp2
        go_ret2
        exact ⟨_, _, rfl, by rw [HE.out]; exact R.out⟩
    · obtain rfl : i = len := by omega
      have HE : Hid (t.take i = t.take 6 ∧ ((t.take 6).map cutA).length = i) := (by
        have := HL.out
        refine ⟨?_, by simp; omega⟩
        rw [List.take_of_length_le (by omega), List.take_of_length_le (by omega)] : t.take i = t.take 6 ∧ ((t.take 6).map cutA).length = i)
      go_wp2
      go_ret2
      exact ⟨_, _, rfl, by rw [HE.out.2, ← HE.out.1]; exact R.out⟩
end Go.Proofs.YtpepbhmdfjpblaaGreatDoor
