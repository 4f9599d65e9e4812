/- slices.Compact at rising places: each once. -/
import Derived.Test.YtkkkldglceiiiaaGreatSortTop
namespace Go.Proofs.YtkkkldglceiiiaaGreat
open Go.ChangeShapes Go.WideShapes Go.ChangeAt Go.RowKit
open Go.Sort (swp ltInt PermIn SortedIn bitsLen)
set_option linter.unusedVariables false

def Strict (e : Array Int) (k : Nat) : Prop := ∀ i j, i < j → j < k → e[i]! < e[j]!
def Mem (e : Array Int) (k : Nat) (d : Array Int) (t : Nat) : Prop := ∀ x, (∃ i, i < k ∧ e[i]! = x) ↔ (∃ i, i < t ∧ d[i]! = x)

theorem strict_more {d : Array Int} {k : Nat} (h : Strict d k) (hk : 1 ≤ k) (hlt : d[k - 1]! < d[k]!) : Strict d (k + 1) := by
  intro i j hij hj
  by_cases q : j < k
  · exact h i j hij q
  · obtain rfl : j = k := by omega
    by_cases q2 : i = j - 1
    · rw [q2]; exact hlt
    · exact Int.lt_trans (h i (j - 1) (by omega) (by omega)) hlt
theorem mem_same {e d : Array Int} {k t : Nat} (h : Mem e k d t) (ht : 1 ≤ t) (he : d[t]! = d[t - 1]!) : Mem e k d (t + 1) := by
  intro x
  rw [h x]
  constructor
  · rintro ⟨i, hi, rfl⟩; exact ⟨i, by omega, rfl⟩
  · rintro ⟨i, hi, rfl⟩
    by_cases q : i < t
    · exact ⟨i, q, rfl⟩
    · obtain rfl : i = t := by omega
      exact ⟨i - 1, by omega, he.symm⟩
theorem setAt_other {e : Array Int} {k : Nat} {y : Int} (j : Nat) (h : j ≠ k) : (e.setIfInBounds k y)[j]! = e[j]! := Go.Sort.getElem!_set_other _ _ _ _ h
theorem setAt_same {e : Array Int} {k : Nat} {y : Int} (h : k < e.size) : (e.setIfInBounds k y)[k]! = y := Go.Sort.getElem!_set_same _ _ _ h
theorem strict_set {e : Array Int} {k : Nat} {y : Int} (h : Strict e k) (hk : 1 ≤ k) (hs : k < e.size) (hlt : e[k - 1]! < y) : Strict (e.setIfInBounds k y) (k + 1) := by
  refine strict_more ?_ hk ?_
  · intro i j hij hj
    rw [setAt_other i (by omega), setAt_other j (by omega)]; exact h i j hij hj
  · rw [setAt_other (k - 1) (by omega), setAt_same hs]; exact hlt
theorem mem_set {e d : Array Int} {k t : Nat} (h : Mem e k d t) (hs : k < e.size) : Mem (e.setIfInBounds k d[t]!) (k + 1) d (t + 1) := by
  intro x
  constructor
  · rintro ⟨i, hi, rfl⟩
    by_cases q : i = k
    · subst q; rw [setAt_same hs]; exact ⟨t, by omega, rfl⟩
    · rw [setAt_other i q]
      obtain ⟨j, hj, e1⟩ := (h e[i]!).1 ⟨i, by omega, rfl⟩
      exact ⟨j, by omega, e1⟩
  · rintro ⟨i, hi, rfl⟩
    by_cases q : i = t
    · subst q; exact ⟨k, by omega, setAt_same hs⟩
    · obtain ⟨j, hj, e1⟩ := (h d[i]!).2 ⟨i, by omega, rfl⟩
      exact ⟨j, by omega, by rw [setAt_other j (by omega)]; exact e1⟩

theorem Row.set {w : World} {blk off : Nat} {d : Array Int} (h : Row w blk off d) (k : Nat) (hk : k < d.size) (y : Int) : Row (w.setCell ⟨blk, off + k, none⟩ (.int .u64 y)) blk off (d.setIfInBounds k y) := by
  intro j hj
  rw [Array.size_setIfInBounds] at hj
  refine ⟨?_, by rw [World.frozen?_setCell]; exact (h j hj).2⟩
  by_cases q : j = k
  · subst q; rw [setAt_same hk]; exact World.cell?_setCell_same' _ _ _ (by rw [(h j hj).1]; rfl)
  · rw [setAt_other j q, cell_other _ _ _ _ _ (by omega)]; exact (h j hj).1
theorem Row.front {w : World} {blk off : Nat} {d : Array Int} (h : Row w blk off d) (k : Nat) (vs : List Value) (hk : k ≤ d.size) : Row (w.setCells blk (off + k) vs) blk off (d.extract 0 k) := by
  intro j hj
  have hj' : j < k := by simp at hj; omega
  refine ⟨?_, by rw [World.frozen?_setCells]; exact (h j (by omega)).2⟩
  rw [World.cell?_setCells_out _ _ _ _ _ (fun _ _ => Or.inl (by show off + j < off + k; omega)), (h j (by omega)).1]
  congr 2
  rw [getElem!_pos d j (by omega), getElem!_pos (d.extract 0 k) j hj]
  simp
theorem RK.setCells (blk : Nat) : ∀ (vs : List Value) (o : Nat) (w : World), RK w (w.setCells blk o vs) blk
  | [], _, w => RK.refl w blk
  | v :: r, o, w => (RK.setCell w blk o v).trans (RK.setCells blk r (o + 1) _)
theorem strict_front {d : Array Int} {k : Nat} (h : Strict d k) (hk : k ≤ d.size) : Strict (d.extract 0 k) k := by
  intro i j hij hj
  rw [getElem!_pos (d.extract 0 k) i (by simp; omega), getElem!_pos (d.extract 0 k) j (by simp; omega)]
  have q := h i j hij hj
  rw [getElem!_pos d i (by omega), getElem!_pos d j (by omega)] at q
  simpa using q
theorem mem_front {e d : Array Int} {k t : Nat} (h : Mem e k d t) (hk : k ≤ e.size) : Mem (e.extract 0 k) k d t := by
  intro x
  rw [← h x]
  constructor
  all_goals
    rintro ⟨i, hi, rfl⟩
    refine ⟨i, hi, ?_⟩
    rw [getElem!_pos (e.extract 0 k) i (by simp; omega), getElem!_pos e i (by omega)]
    simp

theorem zero_sid (w : World) : (zeroValue 36).run Tryz.prog w = .ok (.int .u64 0) w := by kernel_rfl

set_option maxHeartbeats 1000000 in
theorem compact_any (blk off cap : Nat) (d : Array Int) (w : World) (hR : Row w blk off d) (hcap : d.size ≤ cap) (hsz : d.size < 64) (hs : ∀ i j, i < j → j < d.size → d[i]! ≤ d[j]!) :
    Calls Tryz.prog 34 #[.slice (some ⟨blk, off, none⟩) d.size cap] w fun e w' =>
      ∃ R : Array Int, e = .returned (.slice (some ⟨blk, off, none⟩) R.size cap) ∧ R.size ≤ cap ∧ R.size < 64 ∧ RK w w' blk ∧ Row w' blk off R ∧ Strict R R.size ∧ Mem R R.size d d.size := by
  have H0 : Hid (Row w blk off d ∧ ∀ i j, i < j → j < d.size → d[i]! ≤ d[j]!) := ⟨hR, hs⟩
  clear hR hs
  go_enter Tryz.func34, Tryz.ntmps34
  by_cases h2 : (d.size : Int) < 2
  · go_wp2
    go_ret
    exact ⟨d, rfl, hcap, hsz, RK.refl _ _, H0.out.1, fun i j hij hj => by omega, fun x => Iff.rfl⟩
  · go_wp2_with fail
    go_loopg [3] d.size (fun n v3 wr => ∃ k : Nat, v3 = .int .i64 k ∧ 1 ≤ k ∧ k ≤ d.size ∧ d.size - k ≤ n ∧ RK w wr blk ∧ Row wr blk off d ∧ Strict d k)
    case atStart => exact ⟨1, rfl, Nat.le_refl _, by omega, by omega, RK.refl _ _, H0.out.1, fun i j hij hj => by omega⟩
    case round =>
      obtain ⟨k, rfl, hk1, hks, hgk, hK, hRow, hSt⟩ := hrel
      obtain ⟨G, hG, hcell, hfro⟩ := hRow.fam d.size rfl
      have H : Hid (RK w wr blk ∧ Row wr blk off d ∧ Strict d k ∧ ∀ t, G t = d[t]!) := ⟨hK, hRow, hSt, hG⟩
      clear hK hRow hSt hG
      by_cases hkl : k < d.size
      · go_upto_region 6 with fail
        go_quiet (fail)
        by_cases heq : G k = G (k - 1)
        · have heq2 : (G k == G (k - 1)) = true := by rw [heq]; exact beq_self_eq_true _
          go_upto_block 2 with fail
          have hgk' : G k = G (k - 1) := heq
          have HQ : Hid (d[k]! = d[k - 1]!) := by show _ = _; rw [← H.out.2.2.2, ← H.out.2.2.2]; exact heq
          have st0 := still_step H.out.1 H.out.2.1 nq
          have HS0 : Hid _ := st0
          clear st0 hcell hfro heq heq2 hgk'
          go_wp2_with fail
          go_loopg [3, 5] d.size (fun n v3 v5 wr => ∃ (kk k2 : Nat) (e : Array Int), v3 = .int .i64 kk ∧ v5 = .int .i64 k2 ∧ 1 ≤ k2 ∧ k2 ≤ d.size - k ∧ 1 ≤ kk ∧ kk + 1 ≤ k + k2 ∧ d.size - k - k2 ≤ n ∧ e.size = d.size ∧ (∀ j, k + k2 ≤ j + 1 → e[j]! = d[j]!) ∧ e[kk - 1]! = d[k + k2 - 1]! ∧ Strict e kk ∧ Mem e kk d (k + k2) ∧ RK w wr blk ∧ Row wr blk off e)
          case atStart =>
            exact ⟨k, 1, d, rfl, rfl, Nat.le_refl _, by omega, hk1, Nat.le_refl _, by omega, rfl, fun _ _ => rfl, by rw [Nat.add_sub_cancel]; exact HQ.out.symm, H.out.2.2.1, mem_same (fun x => Iff.rfl) hk1 HQ.out, HS0.out.1, HS0.out.2⟩
          case round =>
            clear HS0 nq H hgk
            obtain ⟨kk, k2, e, rfl, rfl, h21, h2s, hkk1, hkk2, hgk, hse, hsame, hlast, hSt, hMem, hK, hRow⟩ := hrel
            obtain ⟨G, hG, hcell, hfro⟩ := hRow.fam d.size hse
            have H : Hid ((∀ j, k + k2 ≤ j + 1 → e[j]! = d[j]!) ∧ e[kk - 1]! = d[k + k2 - 1]! ∧ Strict e kk ∧ Mem e kk d (k + k2) ∧ RK w wr blk ∧ Row wr blk off e ∧ ∀ t, G t = e[t]!) := ⟨hsame, hlast, hSt, hMem, hK, hRow, hG⟩
            clear hsame hlast hSt hMem hK hRow hG
            by_cases hkl2 : (k2 : Int) < (d.size : Int) - k
            · go_upto_region 11 with fail
              go_quiet (fail)
              have HE : Hid (G (k + k2) = d[k + k2]! ∧ G (k + (k2 - 1)) = d[k + k2 - 1]!) := ⟨by rw [H.out.2.2.2.2.2.2, H.out.1 _ (by omega)], by rw [H.out.2.2.2.2.2.2, H.out.1 _ (by omega), show k + (k2 - 1) = k + k2 - 1 by omega]⟩
              by_cases hne : G (k + k2) = G (k + (k2 - 1))
              · have HN : Hid (d[k + k2]! = d[k + k2 - 1]!) := by show _ = _; rw [← HE.out.1, ← HE.out.2]; exact hne
                have hne2 : (G (k + k2) != G (k + (k2 - 1))) = false := by rw [hne]; simp
                clear hne
                go_wp2
                go_roundg (d.size - k - k2 - 1)
                case measure => omega
                case rel =>
                  have st := still_step H.out.2.2.2.2.1 H.out.2.2.2.2.2.1 nq
                  exact ⟨kk, k2 + 1, e, rfl, by go_num, by omega, by omega, hkk1, by omega, by omega, hse, fun j hj => H.out.1 j (by omega), by
                    rw [H.out.2.1, show k + (k2 + 1) - 1 = k + k2 by omega]; exact HN.out.symm, H.out.2.2.1, mem_same (t := k + k2) H.out.2.2.2.1 (by omega) HN.out, st.1, st.2⟩
              · have HN : Hid (d[k + k2 - 1]! < d[k + k2]!) := by
                  show _ < _
                  have q := H0.out.2 (k + k2 - 1) (k + k2) (by omega) (by omega)
                  rw [← HE.out.1, ← HE.out.2] at q ⊢
                  omega
                have hne2 : (G (k + k2) != G (k + (k2 - 1))) = true := by simpa using hne
                clear hne
                go_wp2
                go_roundg (d.size - k - k2 - 1)
                case measure => omega
                case rel =>
                  have st := still_step H.out.2.2.2.2.1 H.out.2.2.2.2.2.1 nq
                  have sr := st.2.set kk (by omega) (G (k + k2))
                  rw [HE.out.1] at sr ⊢
                  exact ⟨kk + 1, k2 + 1, e.setIfInBounds kk d[k + k2]!, by go_num, by go_num, by omega, by omega, by omega, by omega, by omega, by rw [Array.size_setIfInBounds]; exact hse,
                    fun j hj => by rw [setAt_other j (by omega)]; exact H.out.1 j (by omega), by rw [Nat.add_sub_cancel, setAt_same (by omega), show k + (k2 + 1) - 1 = k + k2 by omega],
                    strict_set H.out.2.2.1 hkk1 (by omega) (by rw [H.out.2.1]; exact HN.out), mem_set (t := k + k2) H.out.2.2.2.1 (by omega), st.1.trans (RK.setCell _ _ _ _), sr⟩
            · have hcl : ∀ ty, (Builtin.clear_ #[27] ty #[.slice (some ⟨blk, off + kk, none⟩) (d.size - kk) (cap - kk)]).run Tryz.prog wr = .ok (.tuple #[]) (wr.setCells blk (off + kk) (List.replicate (d.size - kk) (.int .u64 0))) :=
                fun ty => Lib.run_clear_slice wr _ _ ty _ Tryz.underlying27 zero_sid rfl rfl blk (off + kk) _ _ (by omega) (fun j hj => by rw [Nat.add_assoc, hcell (kk + j) (by omega)]; rfl) (fun j hj => by rw [Nat.add_assoc]; exact hfro (kk + j) (by omega))
              have HF : Hid (k + k2 = d.size) := by show _ = _; omega
              go_wp2
              go_ret
              have m := mem_front H.out.2.2.2.1 (show kk ≤ e.size by omega)
              rw [HF.out] at m
              have z : (e.extract 0 kk).size = kk := by simp; omega
              exact ⟨e.extract 0 kk, by rw [z]; rfl, by omega, by omega, H.out.2.2.2.2.1.trans (RK.setCells _ _ _ _), H.out.2.2.2.2.2.1.front kk _ (by omega), by rw [z]; exact strict_front H.out.2.2.1 (by omega), by rw [z]; exact m⟩
        · have heq2 : (G k == G (k - 1)) = false := by simpa using heq
          go_wp2
          go_roundg (d.size - k - 1)
          case measure => omega
          case rel =>
            have st := still_step H.out.1 H.out.2.1 nq
            have q := H0.out.2 (k - 1) k (by omega) hkl
            rw [← H.out.2.2.2, ← H.out.2.2.2] at q
            exact ⟨k + 1, by go_num, by omega, by omega, by omega, st.1, st.2, strict_more H.out.2.2.1 hk1 (by rw [← H.out.2.2.2, ← H.out.2.2.2]; omega)⟩
      · go_wp2
        go_ret
        obtain rfl : k = d.size := by omega
        exact ⟨d, rfl, hcap, hsz, H.out.1, H.out.2.1, H.out.2.2.1, fun x => Iff.rfl⟩
end Go.Proofs.YtkkkldglceiiiaaGreat
