/- Rows of numbers that the call itself makes; wigwaglaw01.ids. -/
import Derived.Test.YtkmlebikcllkpaaSortRing
namespace Go.Proofs.Ytkmlebikcllkpaa
open Go.ChangeShapes Go.WideShapes Go.ChangeAt Go.RowKit
set_option linter.unusedVariables false

/-- A row of numbers made since w. -/
structure Made (w wr : World) (v : Value) (l : List Int) : Prop where
  below : Below w.heap.size w wr
  row : wr.ownsRow w.heap.size 22 1 v l.length (l.map (Value.int .u64))
  shape : ∃ a c, v = .slice a l.length c
theorem Made.size {w wr : World} {v : Value} {l : List Int} (h : Made w wr v l) : w.heap.size ≤ wr.heap.size := h.below.size

theorem Try.infoU64 : (Try.prog.info? 22).map (fun i => (i.zero, i.size, i.bytes)) = some (some (.int .u64 0), 1, 8) := by kernel_rfl

theorem Made.ids {w wr : World} {a : Option Addr} {n c : Nat} {l : List Int} (h : Made w wr (.slice a n c) l) (hn : n = l.length) : IdsAt wr a n l := by
  subst hn
  refine ⟨rfl, ?_⟩
  rcases h.row.2 with ⟨e, h0⟩ | ⟨g, cap, cur, e, hB, hg, hc, hm, hs, ht⟩
  · exact .inl h0
  · cases e
    have r := row_of_cells hg l _ rfl (by simpa using ht)
    refine .inr ⟨g, 0, rfl, fun j hj => ?_⟩
    have q := (r j (by simpa using hj)).1
    rw [q]
    congr 2
    rw [getElem!_pos l.toArray j (by simpa using hj), List.getD_eq_getElem?_getD, List.getElem?_eq_getElem hj]
    simp

theorem Made.empty (w : World) : Made w (w.alloc (.cells #[] 22)) (.slice (some ⟨w.heap.size, 0, none⟩) 0 0) [] :=
  ⟨(Below.refl _ _).alloc (Nat.le_refl _) _, ⟨rfl, .inr ⟨w.heap.size, 0, #[], rfl, Nat.le_refl _, by have := heap_alloc_new w (.cells #[] 22); simpa using this, Nat.le_refl _, Nat.zero_le _, rfl, rfl⟩⟩, ⟨_, _, rfl⟩⟩

theorem src_u64 (wr : World) (x : Int) (c : Nat) : Src Try.prog 1 38 (.slice (some ⟨wr.heap.size, 0, none⟩) 1 c) 1 [.int .u64 x] (wr.alloc (.cells #[.int .u64 x] 22)) := by
  refine Src.ofSlice (e' := 22) _ Try.underlying38 _ 1 c _ rfl ?_ ?_
  · intro j u hu
    match j with
    | 0 => simp at hu; subst hu; simp [Addr.add, World.cell?_alloc_new]
    | j + 1 => simp at hu
  · intro u hu
    simp at hu; subst hu; rfl

theorem Made.app {w wr w1 : World} {o : Obj} {v v' : Value} {l : List Int} {x : Int} {n : Nat} (h : Made w wr v l) (hn : n = l.length + 1)
    (ha : Appended w.heap.size 22 (wr.alloc o) w1 v v' n (l.map (Value.int .u64) ++ [.int .u64 x])) : Made w w1 v' (l ++ [x]) := by
  subst hn
  refine ⟨below_of_grown (h.below.alloc h.size o) (by have := h.size; simp; omega) ha.grown (fun k hk => (h.row.lt k hk).1), ?_, ?_⟩
  · have := ha.row; simpa using this
  · have := ha.shape; simpa using this

theorem ids_any (a : Option Addr) (n cap : Nat) (l : List Int) (w : World) (h : IdsAt w a n l) (hn : n ≤ 60) :
    Calls Try.prog 23 #[.slice a n cap, .int .i64 60] w fun e w' => ∃ v, e = .returned v ∧ Made w w' v l := by
  obtain ⟨i0, hi, hz0, hz1, hz2⟩ := info_parts' Try.infoU64
  have H0 : Hid (IdsAt w a n l) := h
  clear h
  go_enter Try.func23, Try.ntmps23
  go_wp2
  go_loopw [5, 6] (fun x y wr => ∃ k : Nat, k ≤ n ∧ y = .int .i64 k ∧ Made w wr x (l.take k)) (fun _ y _ => n - (intOf y).toNat)
  case atStart => exact ⟨0, Nat.zero_le _, rfl, Made.empty w⟩
  case round =>
    obtain ⟨k, hk, rfl, G⟩ := hrel
    have hll : (l.take k).length = k := by have := H0.out.1; simp; omega
    obtain ⟨ua, uc, hu⟩ := G.shape
    rw [hll] at hu
    by_cases hlt : k < n
    · obtain ⟨b, o, ha, hc⟩ : ∃ b o, a = some ⟨b, o, none⟩ ∧ wr.cell? ⟨b, o + k, none⟩ = some (.int .u64 (l.getD k 0)) := by
        have q := H0.out.carry G.below
        rcases q.2 with h0 | ⟨b, o, ha, hc⟩
        · omega
        · exact ⟨b, o, ha, hc k hlt⟩
      have HT : Hid (l.take (k + 1) = l.take k ++ [l.getD k 0]) := by
        show _ = _
        have hkl : k < l.length := by have := H0.out.1; omega
        rw [List.take_add_one, List.getD_eq_getElem?_getD, List.getElem?_eq_getElem hkl]; rfl
      obtain ⟨y, hy⟩ : ∃ y, y = l.getD k 0 := ⟨_, rfl⟩
      rw [← hy] at hc HT
      clear hy
      subst ha
      subst hu
      have hrow := G.row.alloc (.cells #[.int .u64 y] 22)
      rw [hll] at hrow
      have HG : Hid (Made w wr (.slice ua k uc) (l.take k)) := G
      have hsz := G.size
      have HL : Hid ((l.take k).length = k) := hll
      clear G hll
      go_wp2_with (at_builtin; refine wpList_own_append _ rfl _ _ 38 38 rfl w.heap.size 22 i0 (.int .u64 0) 8 Try.underlying38 hi hz0 hz1 hz2 rfl _ _ _ rfl hrow _ 1 [.int .u64 y] rfl (src_u64 wr y _) ?c3 ?c4 ?c5 ?_)
      case c3 => unfold maxLen; omega
      case c4 => omega
      case c5 => simp; omega
      intro v' w1 ha
      rw [← List.map_take] at ha
      have G' := HG.out.app (by rw [HL.out]) ha
      rw [← HT.out] at G'
      clear ha hrow
      go_wp2
      go_roundw
      case rel => exact ⟨k + 1, hlt, by go_num, G'⟩
      case measure => simp [intOf]; omega
    · have HG : Hid (Made w wr (.slice ua k uc) l) := by
        show Made _ _ _ _
        subst hu
        have e : l.take k = l := List.take_of_length_le (by have := H0.out.1; omega)
        rw [e] at G
        exact G
      clear G
      subst hu
      go_wp2
      go_ret
      exact ⟨_, rfl, HG.out⟩
end Go.Proofs.Ytkmlebikcllkpaa
