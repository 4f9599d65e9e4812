/- The document's bag (wigwagref03): Find, Without, Purge, Send; wigwaglaw03.same. -/
import Derived.Test.YtgbdnclolgdojaaDoorBagPurge3
namespace Go.Proofs.YtgbdnclolgdojaaDoor
open Go.ChangeShapes Go.WideShapes Go.ChangeAt Go.RowKit
set_option linter.unusedVariables false

/-- Packets in a row that a slice shows. -/
def RowAt (w : World) (a : Option Addr) (L : List Pk) : Prop := 0 < L.length → ∃ gg, a = some ⟨gg, 0, none⟩ ∧ PkRow w gg L
theorem RowAt.below {w w' : World} {a : Option Addr} {L : List Pk} (h : RowAt w a L) (hb : Below w.heap.size w w') : RowAt w' a L := fun h0 => by
  obtain ⟨gg, e, R⟩ := h h0
  exact ⟨gg, e, R.below hb⟩
theorem RowAt.alloc {w : World} {a : Option Addr} {L : List Pk} (h : RowAt w a L) (o : Obj) : RowAt (w.alloc o) a L := h.below ((Below.refl _ _).alloc (Nat.le_refl _) o)
theorem Tryd.infoRPk : (Tryd.prog.info? 44).map (fun i => (i.zero, i.size, i.bytes)) = some (some (.agg #[.int .i64 0, .int .i64 0, .int .i64 0, .string ByteArray.empty]), 4, 40) := by kernel_rfl
/-- A row of the call's own, of the document's packets. -/
theorem rrow_of {w : World} {B : Nat} {v : Value} {us : List Pk} (h : w.ownsRow B 44 4 v us.length (us.flatMap Pk.cells)) :
    ∃ a c, v = .slice a us.length c ∧ RowAt w a us ∧ ∀ x, a = some x → B ≤ x.block := by
  rcases h.2 with ⟨rfl, h0⟩ | ⟨g, cap, cur, hv, hb, hg, _⟩
  · exact ⟨none, 0, by rw [h0], (fun h1 => by omega), fun x hx => by cases hx⟩
  · refine ⟨_, cap, hv, fun h0 => ⟨g, rfl, ?_⟩, fun x hx => by simp at hx; rw [← hx]; exact hb⟩
    have hc : ∀ i, i < us.length → ∀ j, j < 4 → w.cell? ⟨g, i * 4 + j, none⟩ = (us.getD i pk0).cells[j]? := fun i hi j hj => by
      have hx := flat_get Pk.cells 4 Pk.cells_len pk0 us i j hi hj
      have hj' : j < (us.getD i pk0).cells.length := hj
      have e := h.cells (g := g) (by rw [hv]; rfl) (i * 4 + j) ((us.getD i pk0).cells[j]) (by rw [hx, List.getElem?_eq_getElem hj'])
      have ea : (⟨g, 0, none⟩ : Addr).add (i * 4 + j) = ⟨g, i * 4 + j, none⟩ := by unfold Addr.add; split <;> simp_all
      rw [ea] at e
      rw [e, List.getElem?_eq_getElem hj']
    refine ⟨lt_of_block hg, fun j hj => ?_, fun j hj => ?_, fun j hj => ?_, fun j hj => ?_⟩
    · have := hc j hj 0 (by omega); simpa [Pk.cells] using this
    · have := hc j hj 1 (by omega); simpa [Pk.cells] using this
    · have := hc j hj 2 (by omega); simpa [Pk.cells] using this
    · have := hc j hj 3 (by omega); simpa [Pk.cells] using this

set_option maxRecDepth 100000 in
set_option maxHeartbeats 1000000 in
theorem rfind_hit (last id : Int) (a : Option Addr) (c k : Nat) (L : List Pk) (w : World) (h : RowAt w a L) (hl : L.length ≤ 4000) (hk : k < L.length) (hid : (L.getD k pk0).id = id) (hfst : ∀ t, t < k → (L.getD t pk0).id ≠ id) :
    Calls Tryd.prog 11 #[.agg #[.int .i64 last, .slice a L.length c], .int .i64 id] w fun e w' => e = .returned (.tuple #[(L.getD k pk0).val, .bool true]) ∧ Below w.heap.size w w' := by
  obtain ⟨gg, ha, R⟩ := h (by omega)
  subst ha
  have hglt := R.lt
  obtain ⟨n, hn⟩ : ∃ n, n = L.length := ⟨_, rfl⟩
  have HH : Hid (PkRow w gg L ∧ n = L.length ∧ (L.getD k pk0).id = id ∧ ∀ t, t < k → (L.getD t pk0).id ≠ id) := ⟨R, hn, hid, hfst⟩
  rw [← hn] at hl hk ⊢
  clear R hn hid hfst h
  go_enter Tryd.func11, Tryd.ntmps11
  go_wp2
  go_loopw [11] (fun y wr => ∃ j : Nat, y = .int .i64 j ∧ j ≤ k ∧ Hid (Below (w.heap.size + 2) ((w.alloc (.cells #[.int .i64 last, .slice (some ⟨gg, 0, none⟩) n c] 28)).alloc (.cells #[.int .i64 0, .int .i64 0, .int .i64 0, .string { data := #[] }] 44)) wr)) (fun y _ => k + 1 - (intOf y).toNat)
  case atStart => exact ⟨0, rfl, Nat.zero_le _, (Below.refl _ _ : Below (w.heap.size + 2) _ _)⟩
  case round =>
    obtain ⟨j, rfl, hj, HB⟩ := hrel
    have hbw : Below w.heap.size w wr := (((Below.refl _ _).alloc (Nat.le_refl _) _).alloc (by simp) _).trans (HB.out.mono (by omega))
    have hjn : j < L.length := by rw [← HH.out.2.1]; omega
    have hj0 : (0 : Int) ≤ (j : Int) := Int.natCast_nonneg _
    have hj1 : (j : Int) < (n : Int) := by omega
    have R := HH.out.1
    have s0 := (bcell hbw gg (j * 4) hglt).trans (R.c0 j hjn)
    have s1 := (bcell hbw gg (j * 4 + 1) hglt).trans (R.c1 j hjn)
    have s2 := (bcell hbw gg (j * 4 + 2) hglt).trans (R.c2 j hjn)
    have s3 := (bcell hbw gg (j * 4 + 3) hglt).trans (R.c3 j hjn)
    have hwz : w.heap.size + 2 ≤ wr.heap.size := by have := HB.out.size; simp at this; omega
    obtain ⟨q, hq⟩ : ∃ q, q = L.getD j pk0 := ⟨_, rfl⟩
    rw [← hq] at s0 s1 s2 s3
    have HQ : Hid (q = L.getD j pk0 ∧ Below w.heap.size w wr) := ⟨hq, hbw⟩
    clear hq R hbw
    by_cases hjk : j < k
    · have hne : (q.id == id) = false := by
        have := HH.out.2.2.2 j hjk
        rw [← HQ.out.1] at this; simpa using this
      go_wp2
      go_roundw
      case rel => exact ⟨j + 1, by go_num, by omega, (HB.out.alloc (by omega) _ : Below (w.heap.size + 2) _ _)⟩
      case measure => simp [intOf]; omega
    · obtain rfl : j = k := by omega
      have heq : q.id = id := by rw [HQ.out.1]; exact HH.out.2.2.1
      have hblk : wr.heap[w.heap.size + 1]? = some (.cells #[.int .i64 0, .int .i64 0, .int .i64 0, .string { data := #[] }] 44 (0, 0)) := (HB.out.block (w.heap.size + 1) (by omega)).trans (by
        have := heap_alloc_new (w.alloc (.cells #[.int .i64 last, .slice (some ⟨gg, 0, none⟩) n c] 28)) (.cells #[.int .i64 0, .int .i64 0, .int .i64 0, .string { data := #[] }] 44)
        simpa using this)
      obtain ⟨c0, c1, c2, c3, cf⟩ := four_block hblk
      have y1 : w.heap.size + 1 < wr.heap.size := by omega
      have hne : (q.id == id) = true := by simpa using heq
      clear hblk heq
      go_wp2
      refine bodyPost_ret (v := .tuple #[.agg #[.int .i64 q.id, .int .i64 q.src, .int .i64 q.dst, .string q.s], .bool true]) (by simp [results, Tryd.results11, go_sem, c0, c1, c2, c3, y1]) rfl ⟨?_, ?_⟩
      · rw [← HQ.out.1]; rfl
      · have hb := HQ.out.2
        first
          | exact ((((hb.setCell (by simp) _).setCell (by simp) _).setCell (by simp) _).setCell (by simp) _).alloc (by simp [World.setCell]; omega) _
          | exact ((((hb.alloc hb.size _).setCell (by simp) _).setCell (by simp) _).setCell (by simp) _).setCell (by simp) _
end Go.Proofs.YtgbdnclolgdojaaDoor
