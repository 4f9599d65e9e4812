/- Keepers and their peers; a peer put into a box. -/
import Derived.Test.YtmajlldfiiokoaaGreatDoorJoinRdKeep
import Derived.Test.YtmajlldfiiokoaaGreatDoorRfS
namespace Go.Proofs.YtmajlldfiiokoaaGreatDoor
open Go.ChangeShapes Go.WideShapes Go.ChangeAt Go.RowKit Go.Deep
set_option linter.unusedVariables false

theorem rot_get (C : List Int) (k j : Nat) (hk : k < C.length) (hj : j + 1 < C.length) : (C.drop (k + 1) ++ C.take k).getD j 0 = C.getD ((k + 1 + j) % C.length) 0 := by
  rw [List.getD_eq_getElem?_getD, List.getD_eq_getElem?_getD]
  congr 1
  by_cases h : j < C.length - (k + 1)
  · rw [List.getElem?_append_left (by simpa using h), List.getElem?_drop, Nat.mod_eq_of_lt (by omega)]
  · rw [List.getElem?_append_right (by simp; omega)]
    have e : (k + 1 + j) % C.length = k + 1 + j - C.length := by
      rw [Nat.mod_eq_sub_mod (by omega), Nat.mod_eq_of_lt (by omega)]
    rw [e, List.getElem?_take_of_lt (by simp; omega)]
    congr 1
    simp
    omega
theorem keepL_one (C : List Int) (k j : Nat) (hk : k < C.length) (h4 : 4 ≤ C.length) (hj : j < 3) : (keepL C k).getD j 0 = C.getD ((k + j) % C.length) 0 := by
  unfold keepL
  cases j with
  | zero => rw [show (k + 0) % C.length = k from Nat.mod_eq_of_lt hk]; rfl
  | succ j =>
    show ((C.drop (k + 1) ++ C.take k).take 2).getD j 0 = _
    have e : ((C.drop (k + 1) ++ C.take k).take 2).getD j 0 = (C.drop (k + 1) ++ C.take k).getD j 0 := by
      rw [List.getD_eq_getElem?_getD, List.getD_eq_getElem?_getD, List.getElem?_take_of_lt (by omega)]
    rw [e, rot_get C k j hk (by omega)]
    congr 2
    omega
theorem succ_one (R : Rg) (C : List Int) (k j : Nat) (hk : k < C.length) (h4 : 4 ≤ C.length) (hj : j < 3) : (idPe R C k).succ.getD j 0 = C.getD ((k + 1 + j) % C.length) 0 := by
  show ((C.drop (k + 1) ++ C.take k).take 3).getD j 0 = _
  have e : ((C.drop (k + 1) ++ C.take k).take 3).getD j 0 = (C.drop (k + 1) ++ C.take k).getD j 0 := by
    rw [List.getD_eq_getElem?_getD, List.getD_eq_getElem?_getD, List.getElem?_take_of_lt hj]
  rw [e, rot_get C k j hk (by omega)]
theorem CAt.min {w : World} {R : Rg} {C : List Int} {g c d n : Nat} {b : Option Addr} (h : CAt w R C g c d n b) {i : Nat} (hi : i < n) : ∀ j, j < i → C.getD j 0 ≠ C.getD i 0 := fun j hj e => by
  have hl := h.len
  rw [List.getD_eq_getElem?_getD, List.getD_eq_getElem?_getD, List.getElem?_eq_getElem (show j < C.length by omega), List.getElem?_eq_getElem (show i < C.length by omega)] at e
  exact (List.pairwise_iff_getElem.1 h.nodup) j i (by omega) (by omega) hj (by simpa using e)
theorem cpeer_c {w : World} {R : Rg} {C : List Int} {g c d n : Nat} {b : Option Addr} (h : CAt w R C g c d n b) (i : Nat) (hi : i < n) :
    Calls Tryz.prog 35 #[.agg #[.slice (some ⟨g, 0, none⟩) n c, .slice b n d], .int .i64 (C.getD i 0)] w fun e w' => ∃ a2 c2, e = .returned (.tuple #[.agg #[.int .u64 (idPe R C i).id, .int .i64 (idPe R C i).pred, .slice a2 3 c2], .bool true]) ∧ InIn w' a2 3 (idPe R C i).succ ∧ 3 ≤ c2 ∧ Below w.heap.size w w' :=
  cpeer_r R C g c d n i b w h.mem h.c1 h.c2 h.ids h.n4 h.n32 hi (h.min hi)
theorem cowner_c {w : World} {R : Rg} {C : List Int} {g c d n : Nat} {b : Option Addr} (h : CAt w R C g c d n b) (x : Int) (k : Nat) (hk : ownerN (C.map R.idOf) x = (k : Int)) (hkn : k < n) :
    Calls Tryz.prog 33 #[.agg #[.slice (some ⟨g, 0, none⟩) n c, .slice b n d], .int .u64 x] w fun e w' => e = .returned (.int .i64 (C.getD k 0)) ∧ Below w.heap.size w w' :=
  cowner_r R C g c d n k b x w h.mem h.ids h.n4 hk hkn

/-- A peer lies in a box. -/
structure PcI (w wx : World) (q : Nat) (id pred : Int) (a2 : Option Addr) (c2 : Nat) (L : List Int) : Prop where
  box : wx.heap[q]? = some (.cells #[.int .u64 id, .int .i64 pred, .slice a2 3 c2] 80 (0, 0))
  bel : Below w.heap.size w wx
  row : InIn wx a2 3 L
theorem PcI.a {w w9 : World} {id pred : Int} {a2 : Option Addr} {c2 : Nat} {L : List Int} (h : InIn w9 a2 3 L) (b : Below w.heap.size w w9) : PcI w (w9.alloc (.cells #[.int .u64 id, .int .i64 pred, .slice a2 3 c2] 80)) w9.heap.size id pred a2 c2 L :=
  ⟨heap_alloc_new _ _, b.trans ((below_one _ _).mono b.size), h.below (Nat.le_refl _) (below_one _ _)⟩
theorem PcI.b {w w9 : World} {q : Nat} {id pred : Int} {a2 : Option Addr} {c2 : Nat} {L : List Int} (h : InIn w9 a2 3 L) (b : Below w.heap.size w w9) (hq : w.heap.size ≤ q) (hz : w9.heap[q]? = some (.cells #[.int .u64 0, .int .i64 0, .slice none 0 0] 80 (0, 0))) :
    PcI w (((w9.setCell ⟨q, 0, none⟩ (.int .u64 id)).setCell ⟨q, 1, none⟩ (.int .i64 pred)).setCell ⟨q, 2, none⟩ (.slice a2 3 c2)) q id pred a2 c2 L := by
  have h0 : (w9.setCell ⟨q, 0, none⟩ (.int .u64 id)).heap[q]? = some (.cells #[.int .u64 id, .int .i64 0, .slice none 0 0] 80 (0, 0)) := by simpa using bx_set (j := 0) hz (.int .u64 id)
  have h1 : ((w9.setCell ⟨q, 0, none⟩ (.int .u64 id)).setCell ⟨q, 1, none⟩ (.int .i64 pred)).heap[q]? = some (.cells #[.int .u64 id, .int .i64 pred, .slice none 0 0] 80 (0, 0)) := by simpa using bx_set (j := 1) h0 (.int .i64 pred)
  refine ⟨by simpa using bx_set (j := 2) h1 (.slice a2 3 c2), ((b.setCell hq _).setCell hq _).setCell hq _, ?_⟩
  obtain ⟨mb, mo, hmb, hml, _, hc⟩ := h.one (v := Value.int .i64) (fun _ => rfl) (i := 2) (by omega)
  obtain ⟨mb', mo', hmb', _, _, hc1⟩ := h.one (v := Value.int .i64) (fun _ => rfl) (i := 1) (by omega)
  obtain ⟨mb3, mo3, hmb3, _, _, hc0⟩ := h.one (v := Value.int .i64) (fun _ => rfl) (i := 0) (by omega)
  subst hmb
  simp at hmb' hmb3
  obtain ⟨rfl, rfl⟩ := hmb'
  obtain ⟨rfl, rfl⟩ := hmb3
  have hne : mb ≠ q := by
    intro e
    subst e
    simp [World.cell?, hz] at hc
    cases mo <;> simp at hc
  refine ⟨h.1, h.2.1, .inr ⟨mb, mo, rfl, by simp [World.setCell]; exact hml, fun i hi => ?_⟩⟩
  rcases h.2.2 with h0 | ⟨b', o', ha, hlt, hcc⟩
  · omega
  · cases ha
    refine ⟨(hcc i hi).1, fun j hj => ?_⟩
    rw [World.cell?_of_block (Below.heap_setCell _ _ _ _ (by simpa using hne)), World.cell?_of_block (Below.heap_setCell _ _ _ _ (by simpa using hne)), World.cell?_of_block (Below.heap_setCell _ _ _ _ (by simpa using hne))]
    exact (hcc i hi).2 j hj
end Go.Proofs.YtmajlldfiiokoaaGreatDoor
