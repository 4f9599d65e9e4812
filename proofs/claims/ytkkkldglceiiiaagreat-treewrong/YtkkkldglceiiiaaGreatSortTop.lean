/- Slices of places; slices.Clone and slices.Sort at places. -/
import Derived.Test.YtkkkldglceiiiaaGreatSortPdq
import Derived.Test.YtkkkldglceiiiaaGreatOwnSrc
import Derived.OneCell
import Derived.Deep.AppendSrc
import Derived.Lib.SliceRun
namespace Go.Proofs.YtkkkldglceiiiaaGreat
open Go.ChangeShapes Go.WideShapes Go.ChangeAt Go.RowKit
open Go.Sort (swp ltInt PermIn SortedIn bitsLen)
set_option linter.unusedVariables false

/-- A slice of n numbers that holds l. -/
def IdsAt (w : World) (a : Option Addr) (n : Nat) (l : List Int) : Prop :=
  l.length = n ∧ (n = 0 ∨ ∃ b o, a = some ⟨b, o, none⟩ ∧ ∀ j, j < n → w.cell? ⟨b, o + j, none⟩ = some (.int .u64 (l.getD j 0)))

theorem block_of_cell {w : World} {a : Addr} {v : Value} (h : w.cell? a = some v) : a.block < w.heap.size := by
  rcases Nat.lt_or_ge a.block w.heap.size with q | q
  · exact q
  · simp [World.cell?, Array.getElem?_eq_none q] at h

theorem IdsAt.carry {w w' : World} {a : Option Addr} {n : Nat} {l : List Int} (h : IdsAt w a n l) (hb : Below w.heap.size w w') : IdsAt w' a n l := by
  obtain ⟨h1, h2⟩ := h
  refine ⟨h1, ?_⟩
  rcases h2 with h2 | ⟨b, o, ha, hc⟩
  · exact .inl h2
  · refine .inr ⟨b, o, ha, fun j hj => ?_⟩
    have q := hb.block b (block_of_cell (hc j hj))
    rw [← hc j hj]
    exact World.cell?_of_block q

theorem Row.ids {w : World} {g : Nat} {d : Array Int} (h : Row w g 0 d) (n : Nat) (hn : n ≤ d.size) : IdsAt w (some ⟨g, 0, none⟩) n (d.toList.take n) := by
  refine ⟨by simp; omega, .inr ⟨g, 0, rfl, fun j hj => ?_⟩⟩
  rw [(h j (by omega)).1]
  congr 2
  rw [List.getD_eq_getElem?_getD, List.getElem?_take, if_pos hj, getElem!_pos d j (by omega)]
  simp [show j < d.size by omega]

/-- A slice of the call's own: nil, or a row from block B on. -/
def OwnIds (B : Nat) (w : World) (v : Value) (l : List Int) : Prop :=
  (v = .slice none 0 0 ∧ l = []) ∨ ∃ g c, v = .slice (some ⟨g, 0, none⟩) l.length c ∧ l.length ≤ c ∧ B ≤ g ∧ g < w.heap.size ∧ Row w g 0 l.toArray

theorem row_of_cells {w : World} {g : Nat} {cur : Array Value} {t : TypeId} (h : w.heap[g]? = some (.cells cur t (0, 0))) (l : List Int) (n : Nat) (hn : l.length = n) (ht : cur.toList.take n = l.map (Value.int .u64)) : Row w g 0 l.toArray := by
  intro j hj
  have hj' : j < l.length := by simpa using hj
  refine ⟨?_, by simp [World.frozen?, h]⟩
  have q : (cur.toList.take n)[j]? = some (Value.int .u64 l[j]) := by rw [ht, List.getElem?_map, List.getElem?_eq_getElem hj']; rfl
  rw [List.getElem?_take, if_pos (by omega)] at q
  simp only [World.cell?, h]
  simp only [Nat.zero_add]
  rw [← Array.getElem?_toList, q]
  simp [hj']

theorem own_of_row {B : Nat} {w : World} {v : Value} {t : TypeId} {l : List Int} {n : Nat} (hn : l.length = n) (h : w.ownsRow B t 1 v n (l.map (Value.int .u64))) : OwnIds B w v l := by
  obtain ⟨h1, h2⟩ := h
  subst hn
  rcases h2 with ⟨rfl, h0⟩ | ⟨g, c, cur, rfl, hB, hg, hc, hm, hs, ht⟩
  · exact .inl ⟨rfl, List.eq_nil_of_length_eq_zero h0⟩
  · refine .inr ⟨g, c, rfl, hc, hB, ?_, row_of_cells hg l _ rfl (by simpa using ht)⟩
    rcases Nat.lt_or_ge g w.heap.size with q | q
    · exact q
    · rw [Array.getElem?_eq_none q] at hg; cases hg

theorem below_of_grown {B : Nat} {w w1 w2 : World} {row : Option Nat} (h : Below B w w1) (hB : B ≤ w1.heap.size) (hg : w1.grownBy w2 row) (hrow : ∀ k, row = some k → B ≤ k) : Below B w w2 :=
  h.trans ⟨hg.os, hg.tape, hg.output, hg.size, fun k hk => hg.block k (by omega) (fun e => by have := hrow k e.symm; omega)⟩

theorem Tryz.infoId : (Tryz.prog.info? 36).map (fun i => (i.zero, i.size, i.bytes)) = some (some (.int .u64 0), 1, 8) := by kernel_rfl
theorem info_parts' {P : Program} {t : TypeId} {z : Value} {s b : Nat} (h : (P.info? t).map (fun i => (i.zero, i.size, i.bytes)) = some (some z, s, b)) : ∃ i, P.info? t = some i ∧ i.zero = some z ∧ i.size = s ∧ i.bytes = b := by
  cases hi : P.info? t with
  | none => rw [hi] at h; cases h
  | some i => rw [hi] at h; simp at h; exact ⟨i, rfl, h.1, h.2.1, h.2.2⟩

theorem src_ids {w : World} {x : Addr} {n c : Nat} {l : List Int} (h : IdsAt w (some x) n l) : Src Tryz.prog 1 27 (.slice (some x) n c) n (l.map (Value.int .u64)) w := by
  refine Src.ofSlice (e' := 36) w Tryz.underlying27 x n c _ (by simp [h.1]) ?_ ?_
  · intro j u hu
    rw [List.getElem?_map] at hu
    cases hj : l[j]? with
    | none => rw [hj] at hu; cases hu
    | some y =>
      rw [hj] at hu
      cases hu
      have hjl : j < l.length := (List.getElem?_eq_some_iff.1 hj).1
      rcases h.2 with h0 | ⟨b, o, ha, hc⟩
      · rw [h.1, h0] at hjl; omega
      · cases ha
        have q := hc j (by rw [← h.1]; exact hjl)
        rw [show Addr.add ⟨b, o, none⟩ j = ⟨b, o + j, none⟩ from by unfold Addr.add; split <;> simp_all, q, List.getD_eq_getElem?_getD, hj]; rfl
  · intro u hu
    obtain ⟨y, _, rfl⟩ := List.mem_map.1 hu
    rfl

theorem clone_any (a : Option Addr) (n cap : Nat) (l : List Int) (w : World) (h : IdsAt w a n l) (hn : n < 64) :
    Calls Tryz.prog 32 #[.slice a n cap] w fun e w' => ∃ v, e = .returned v ∧ Below w.heap.size w w' ∧ OwnIds w.heap.size w' v l := by
  obtain ⟨i0, hi, hz0, hz1, hz2⟩ := info_parts' Tryz.infoId
  cases a with
  | none =>
    have h0 : n = 0 := by rcases h.2 with h0 | ⟨b, o, ha, _⟩; exact h0; cases ha
    subst h0
    have hl : l = [] := List.eq_nil_of_length_eq_zero h.1
    subst hl
    have hnil := fun w : World => Lib.run_eql_slice_nil (P := Tryz.prog) w 27 36 none 0 cap 0 0 Tryz.underlying27
    go_enter Tryz.func32, Tryz.ntmps32
    go_wp2
    go_ret
    exact ⟨_, rfl, Below.refl _ _, .inl ⟨rfl, rfl⟩⟩
  | some x =>
    have hsrc := src_ids (c := cap) h
    have HS : Hid (IdsAt w (some x) n l) := h
    have hown : (w.alloc (.cells #[] 36)).ownsRow w.heap.size 36 1 (.slice (some ⟨w.heap.size, 0, none⟩) 0 0) 0 [] :=
      ⟨rfl, .inr ⟨w.heap.size, 0, #[], rfl, Nat.le_refl _, by have := heap_alloc_new w (.cells #[] 36); simpa using this, Nat.le_refl _, Nat.zero_le _, rfl, rfl⟩⟩
    have b0 : Below w.heap.size w (w.alloc (.cells #[] 36)) := (Below.refl _ _).alloc (Nat.le_refl _) _
    have h1 : IdsAt (w.alloc (.cells #[] 36)) (some x) n l := h.carry b0
    have hsrc1 := src_ids (c := cap) h1
    clear h hsrc
    have hnil := fun w : World => Lib.run_eql_slice_nil (P := Tryz.prog) w 27 36 (some x) n cap 0 0 Tryz.underlying27
    go_enter Tryz.func32, Tryz.ntmps32
    go_wp2_with (at_builtin; refine wpList_own_append _ rfl _ _ 27 27 rfl w.heap.size 36 i0 (.int .u64 0) 8 Tryz.underlying27 hi hz0 hz1 hz2 rfl _ _ _ rfl hown _ n (l.map (Value.int .u64)) rfl hsrc1 ?c3 ?c4 ?c5 ?_)
    case c3 => unfold maxLen; omega
    case c4 => omega
    case c5 => simp
    intro v' w1 ha
    obtain ⟨a', c', hv'⟩ := ha.shape
    have hr := ha.row
    have hb : Below w.heap.size w w1 := below_of_grown b0 (by simp) ha.grown (fun k hk => by simp [Value.ownBlock] at hk; omega)
    have H : Hid (Below w.heap.size w w1 ∧ OwnIds w.heap.size w1 v' l) := ⟨hb, own_of_row HS.out.1 hr⟩
    clear ha hr hb
    go_wp2
    go_ret
    exact ⟨_, rfl, H.out.1, H.out.2⟩

theorem ins_nil (w : World) : Calls Tryz.prog 58 #[.slice none 0 0, .int .i64 0, .int .i64 0] w fun e w' => e = .returned (.tuple #[]) ∧ w' = w := by
  go_enter Tryz.func58, Tryz.ntmps58
  go_wp2
  go_loopg [6] 0 (fun k vi wr => vi = .int .i64 1 ∧ wr = w)
  case atStart => exact ⟨rfl, rfl⟩
  case round =>
    obtain ⟨rfl, rfl⟩ := hrel
    go_wp2
    go_end0
    exact ⟨rfl, rfl⟩
set_option maxRecDepth 100000 in
theorem pdq_nil (limit : Int) (w : World) : Calls Tryz.prog 44 #[.slice none 0 0, .int .i64 0, .int .i64 0, .int .i64 limit] w fun e w' => e = .returned (.tuple #[]) ∧ w' = w := by
  go_enter Tryz.func44, Tryz.ntmps44
  go_wp2_with fail
  go_loopg [1, 2, 3, 8, 9] 0 (fun k v1 v2 v3 v8 v9 wr => v1 = .int .i64 0 ∧ v2 = .int .i64 0 ∧ v3 = .int .i64 limit ∧ v8 = .bool true ∧ v9 = .bool true ∧ wr = w)
  case atStart => exact ⟨rfl, rfl, rfl, rfl, rfl, rfl⟩
  case round =>
    obtain ⟨rfl, rfl, rfl, rfl, rfl, rfl⟩ := hrel
    go_wp2_with (first
      | (go_at_call 58; refine (ins_nil _).mono ?_; rintro e' w' ⟨rfl, rfl⟩))
    refine bodyPost_ret (results_none rfl _ _ _) rfl ?_
    exact ⟨rfl, rfl⟩
theorem sort_nil (w : World) : Calls Tryz.prog 33 #[.slice none 0 0] w fun e w' => e = .returned (.tuple #[]) ∧ w' = w := by
  go_enter Tryz.func33, Tryz.ntmps33
  go_wp2_with (first
    | (go_at_call 41; refine (len_any 0 _ (by decide) (by decide)).mono ?_; rintro e' w' ⟨rfl, rfl⟩)
    | (go_at_call 44; refine (pdq_nil _ _).mono ?_; rintro e' w' ⟨rfl, rfl⟩))
  go_end0
  exact ⟨rfl, rfl⟩

theorem sort_any (blk cap : Nat) (d : Array Int) (w : World) (hR : Row w blk 0 d) (hblk : blk < w.heap.size) (hsz : d.size < 64) :
    Calls Tryz.prog 33 #[.slice (some ⟨blk, 0, none⟩) d.size cap] w fun e w' =>
      e = .returned (.tuple #[]) ∧ RK w w' blk ∧ ∃ R, Row w' blk 0 R ∧ PermIn 0 d.size d R ∧ SortedIn ltInt 0 d.size R := by
  have HR : Hid (Row w blk 0 d) := hR
  have hlen : bitsLen d.size < 64 := by
    have q : ∀ n, n < 64 → bitsLen n < 64 := by decide
    exact q _ hsz
  clear hR
  go_enter Tryz.func33, Tryz.ntmps33
  go_wp2_with (first
    | (go_at_call 41
       have q := len_any d.size w (by omega) (by omega)
       rw [Int.toNat_natCast] at q
       refine q.mono ?_
       rintro e' w' ⟨rfl, rfl⟩)
    | (go_at_call 44
       refine (pdq_any blk 0 cap d.size 0 d.size (bitsLen d.size) d _ (by omega) HR.out (Nat.zero_le _) (Nat.le_refl _) hblk hsz hlen (Or.inl rfl)).mono ?_
       rintro e' w2 ⟨rfl, hK2, hR2⟩))
  go_end0
  exact ⟨rfl, hK2, hR2⟩
end Go.Proofs.YtkkkldglceiiiaaGreat
