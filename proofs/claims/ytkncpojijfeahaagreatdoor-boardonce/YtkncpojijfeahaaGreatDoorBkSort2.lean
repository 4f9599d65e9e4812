/- slices.SortFunc of pairs by board.rising: what lies there behind it. -/
import Derived.Test.YtkncpojijfeahaaGreatDoorBkSort
namespace Go.Proofs.YtkncpojijfeahaaGreatDoor
open Go.ChangeShapes Go.WideShapes Go.ChangeAt Go.RowKit Go.Sort
set_option linter.unusedVariables false

theorem sw2_size (w : World) (blk off n : Nat) (dk : Array (Int × Int)) (os : Array Obj) : w.heap.size ≤ (sortWorldK encW 2 w blk off n dk os).heap.size := by
  simp [sortWorldK, putRowK, putRow, grow, mapBlock]
theorem sw2_block (w : World) (blk off n : Nat) (dk : Array (Int × Int)) (os : Array Obj) {b : Nat} (hb : b < w.heap.size) (hne : b ≠ blk) : (sortWorldK encW 2 w blk off n dk os).heap[b]? = w.heap[b]? := by
  simp [sortWorldK, putRowK, putRow, grow, mapBlock, Array.getElem?_append, hb]
  rw [Array.getElem_modify, if_neg (Ne.symm hne)]
theorem swo_pairs : SWO (Go.Proofs.ltOf cfP) := by
  refine ⟨fun x => ?_, fun x y z h1 h2 => ?_, fun x y z h1 h2 => ?_⟩
  · simp only [Go.Proofs.ltOf, decide_eq_false_iff_not, cfP_lt]; exact ltP_irrefl x
  · simp only [Go.Proofs.ltOf, decide_eq_true_eq, cfP_lt] at *; exact ltP_trans h1 h2
  · simp only [Go.Proofs.ltOf, decide_eq_false_iff_not, cfP_lt] at *
    intro q
    unfold ltP at *; omega
theorem enter_rising (args : Array Value) (w : World) : (callFunc 30 args).run Tryz.prog w = .ok (.enter 30 args) w := by kernel_rfl
theorem encW_len (x : Int × Int) : (encW x).length = 2 := rfl
theorem who_agg (w : World) : (isAgg 44).run Tryz.prog w = .ok true w := by kernel_rfl
theorem who_size (w : World) : (Go.sizeOf 44).run Tryz.prog w = .ok 2 w := by kernel_rfl
theorem getBangP (d : Array (Int × Int)) (j : Nat) (hj : j < d.size) : d[j]! = d.toList.getD j (0, 0) := by
  have h : d.toList.getD j (0, 0) = d.toList[j]'(by simpa using hj) := by simp [List.getD, hj]
  rw [h, getElem!_pos d j hj]; rfl
set_option maxHeartbeats 2000000 in
theorem sort_who (B blk cap : Nat) (L : List (Int × Int)) (w : World) (hrow : w.ownsRow B 44 2 (.slice (some ⟨blk, 0, none⟩) L.length cap) L.length (L.flatMap encW)) (hn : L.Nodup) (hl : L.length ≤ 100000) :
    Calls Tryz.prog 29 #[.slice (some ⟨blk, 0, none⟩) L.length cap, .func (.func 30) #[] #[]] w fun e w' =>
      e = .returned (.tuple #[]) ∧ ∃ L' : List (Int × Int), L'.Perm L ∧ L'.Pairwise ltP ∧ (∀ j, j < L'.length → w'.cell? ⟨blk, j * 2, none⟩ = some (.int .i64 (L'.getD j (0, 0)).1) ∧ w'.cell? ⟨blk, j * 2 + 1, none⟩ = some (.int .i64 (L'.getD j (0, 0)).2)) ∧
      w.heap.size ≤ w'.heap.size ∧ (∀ b, b < w.heap.size → b ≠ blk → w'.heap[b]? = w.heap[b]?) ∧ w'.os = w.os ∧ w'.tape = w.tape ∧ w'.output = w.output := by
  have hbx : ∃ cur, w.heap[blk]? = some (.cells cur 44 (0, 0)) := by
    rcases hrow.2 with ⟨h0, _⟩ | ⟨g, cap', cur, hv, _, hg, _⟩
    · cases h0
    · simp at hv
      obtain ⟨rfl, _⟩ := hv
      exact ⟨cur, hg⟩
  obtain ⟨cur, hg⟩ := hbx
  have hblk := lt_of_block hg
  have hH : HoldsK encW 2 w blk 0 L.toArray := by
    intro t ht
    have ht' : t < L.length * 2 := by simpa using ht
    refine ⟨?_, by simp [World.frozen?, hg]⟩
    rw [get_flatK encW 2 L.toArray t (by simpa using ht')]
    have hi : t / 2 < L.length := by omega
    have hr : t % 2 < 2 := Nat.mod_lt _ (by omega)
    have e2 : t / 2 * 2 + t % 2 = t := by omega
    have q := flat_get encW 2 encW_len (0, 0) L (t / 2) (t % 2) hi hr
    rw [e2] at q
    have hd : L.toArray[t / 2]! = L.getD (t / 2) (0, 0) := getBangP L.toArray (t / 2) (by simpa using hi)
    rw [hd]
    generalize L.getD (t / 2) (0, 0) = x at q
    have hx : (encW x)[t % 2]? = some ((encW x)[t % 2]!) := by
      rw [getElem!_pos (encW x) (t % 2) (by rw [encW_len]; exact hr)]
      exact List.getElem?_eq_getElem (by rw [encW_len]; exact hr)
    rw [hx] at q
    have := hrow.cells (g := blk) rfl t _ q
    rw [Addr.add_lit, Nat.zero_add] at this
    rw [Nat.zero_add]; exact this
  have hc : Go.Proofs.CmpLays Tryz.prog 30 #[] encW 2 cfP blk 0 L.toArray.size w := fun _ _ _ _ x y => rising_any x y _
  have hs := Go.Proofs.AnyQ.slices_SortFunc Go.Proofs.Tryz.sortK 2 who_agg who_size encW encW_len (fun x v hv => by simp [encW] at hv; rcases hv with rfl | rfl <;> rfl) cfP swo_pairs 30 #[] blk 0 cap L.toArray w enter_rising hc hH hblk (by simp; omega)
  refine Calls.mono hs ?_
  rintro e w' ⟨he, d', n, os, hp, hs, rfl⟩
  have hsz : d'.size = L.length := by have := hp.1; simpa using this
  have hpm : d'.toList.Perm L := by
    have := hp.2.2
    have e1 : (d'.extract 0 L.toArray.size) = d' := by rw [← hp.1]; simp
    have e2 : (L.toArray.extract 0 L.toArray.size) = L.toArray := by simp
    rw [e1, e2] at this
    simpa using this
  have hnd : d'.toList.Nodup := hpm.nodup_iff.2 hn
  refine ⟨he, d'.toList, hpm, ?_, fun j hj => ?_, sw2_size _ _ _ _ _ _, fun b hb hne => sw2_block _ _ _ _ _ _ hb hne, rfl, rfl, rfl⟩
  · rw [List.pairwise_iff_getElem]
    intro i j hi' hj' hij
    have hi2 : i < d'.size := by simpa using hi'
    have hj2 : j < d'.size := by simpa using hj'
    have q := hs i j (Nat.zero_le _) hij (by simp; omega)
    have ei : d'[i]! = d'.toList[i] := by rw [getElem!_pos d' i hi2]; rfl
    have ej : d'[j]! = d'.toList[j] := by rw [getElem!_pos d' j hj2]; rfl
    simp only [Go.Proofs.ltOf, decide_eq_false_iff_not, cfP_lt] at q
    rw [ei, ej] at q
    have hne : d'.toList[i] ≠ d'.toList[j] := List.pairwise_iff_getElem.1 hnd i j hi' hj' hij
    rcases ltP_total hne with z | z
    · exact z
    · exact absurd z q
  · have hj2 : j < d'.size := by simpa using hj
    have hk := holdsK_sortWorldK encW 2 w blk 0 n L.toArray d' os hblk hH hp.1
    have h0 := (hk.cell hj2 (c := 0) (by omega)).1
    have h1 := (hk.cell hj2 (c := 1) (by omega)).1
    rw [getBangP d' j hj2] at h0 h1
    simp only [Nat.zero_add, Nat.add_zero] at h0 h1
    exact ⟨h0, h1⟩
set_option maxHeartbeats 2000000 in
theorem sort_nilP (w : World) : Calls Tryz.prog 29 #[.slice none 0 0, .func (.func 30) #[] #[]] w fun e w' => e = .returned (.tuple #[]) ∧ w' = w := by
  have hl : Calls Tryz.prog 51 #[.int .u64 0] w fun e w' => e = .returned (.int .i64 0) ∧ w' = w := by
    have := Go.Proofs.Any.bits_Len (Go.Proofs.SlLaysF0.n15.bits (P := Tryz.prog) (ρ := Go.Proofs.Tryz.sortK_ren) { Go.Proofs.Tryz.sortK with }) 0 w (by omega) (by omega)
    exact this
  have hi : Calls Tryz.prog 75 #[.slice none 0 0, .int .i64 0, .int .i64 0, .func (.func 30) #[] #[]] w fun e w' => e = .returned (.tuple #[]) ∧ w' = w := by
    go_enter Tryz.func75, Tryz.ntmps75
    go_wp2
    refine wp_loop_rounds 1 ?_
    rw [rounds_succ]
    go_wp2
    go_end0
    exact ⟨rfl, rfl⟩
  have hq : Calls Tryz.prog 50 #[.slice none 0 0, .int .i64 0, .int .i64 0, .int .i64 0, .func (.func 30) #[] #[]] w fun e w' => e = .returned (.tuple #[]) ∧ w' = w := by
    go_enter Tryz.func50, Tryz.ntmps50
    go_wp2
    refine wp_loop_rounds 1 ?_
    rw [rounds_succ]
    go_wp2_with (go_at_call 75; refine hi.mono ?_; rintro e w' ⟨rfl, hw'⟩; subst w')
    refine bodyPost_ret (results_none rfl _ _ _) rfl ?_
    exact ⟨rfl, rfl⟩
  go_enter Tryz.func29, Tryz.ntmps29
  go_wp2_with (first | (go_at_call 51; refine hl.mono ?_; rintro e w' ⟨rfl, hw'⟩; subst w') | (go_at_call 50; refine hq.mono ?_; rintro e w' ⟨rfl, hw'⟩; subst w'))
  go_end0
  exact ⟨rfl, rfl⟩
end Go.Proofs.YtkncpojijfeahaaGreatDoor
