/- wigwagref10.Copy. -/
import Derived.Test.YtmajlldfiiokoaaGreatDoorJoinOwnSrc3
namespace Go.Proofs.YtmajlldfiiokoaaGreatDoor
open Go.ChangeShapes Go.WideShapes Go.ChangeAt Go.RowKit Go.Deep
set_option linter.unusedVariables false

theorem bl_flat (l : List Bool) : l.flatMap encB = bl l := by
  induction l with
  | nil => rfl
  | cons a l ih => simp [encB, bl] at ih ⊢; exact ih
theorem ul_flat (l : List Int) : l.flatMap encU = ul l := by
  induction l with
  | nil => rfl
  | cons a l ih => simp [encU, ul] at ih ⊢; exact ih
theorem Pr3.len3 (p : Pr3) : p.cells.length = 3 := rfl
theorem fz_block {w : World} {b : Nat} {cs : Array Value} {t : TypeId} (h : w.heap[b]? = some (.cells cs t (0, 0))) (k : Nat) : w.frozen? ⟨b, k, none⟩ = false := by simp [World.frozen?, h]
theorem c4_block {w : World} {b : Nat} {a0 a1 a2 a3 : Value} {t : TypeId} (h : w.heap[b]? = some (.cells #[a0, a1, a2, a3] t (0, 0))) : w.cell? ⟨b, 0, none⟩ = some a0 ∧ w.cell? ⟨b, 1, none⟩ = some a1 ∧ w.cell? ⟨b, 2, none⟩ = some a2 ∧ w.cell? ⟨b, 3, none⟩ = some a3 ∧ b < w.heap.size :=
  ⟨by simp [World.cell?, h], by simp [World.cell?, h], by simp [World.cell?, h], by simp [World.cell?, h], lt_of_block h⟩
theorem below_alloc {w X : World} {B : Nat} (h : Below B w X) (hB : B ≤ X.heap.size) (o : Obj) : Below B w (X.alloc o) := h.trans ((below_one X o).mono hB)

set_option maxRecDepth 100000 in
set_option maxHeartbeats 4000000 in
theorem rcopy_r (ua la ia pa : Option Addr) (uc lc ic pc : Nat) (U L : List Bool) (I : List Int) (P : List Pr3) (w : World) (h1 : LvIn w ua 32 U) (h2 : LvIn w la 32 L) (h3 : IdIn w ia 32 I) (h4 : InRow 3 Pr3.cells Pr3.ok pr30 w pa 32 P) :
    Calls Tryz.prog 109 #[.agg #[.slice ua 32 uc, .slice la 32 lc, .slice ia 32 ic, .slice pa 32 pc]] w fun e w' => ∃ gu cu gl cl gi ci gp cp, e = .returned (rfv gu cu gl cl gi ci gp cp) ∧ RfO w.heap.size w' gu cu gl cl gi ci gp cp U L I P ∧ Below w.heap.size w w' := by
  have HIN : Hid (LvIn w ua 32 U ∧ LvIn w la 32 L ∧ IdIn w ia 32 I ∧ InRow 3 Pr3.cells Pr3.ok pr30 w pa 32 P) := ⟨h1, h2, h3, h4⟩
  clear h1 h2 h3 h4
  obtain ⟨iB0, iBa, iBb, iBc, iBd⟩ := info_ofP Tryz.infoBo
  obtain ⟨iU0, iUa, iUb, iUc, iUd⟩ := info_ofP Tryz.infoU8
  obtain ⟨iP0, iPa, iPb, iPc, iPd⟩ := info_ofP Tryz.infoP3
  obtain ⟨X1, hX1⟩ : ∃ X1, X1 = (w.alloc (.cells #[.slice ua 32 uc, .slice la 32 lc, .slice ia 32 ic, .slice pa 32 pc] 32)).alloc (.cells #[.slice none 0 0, .slice none 0 0, .slice none 0 0, .slice none 0 0] 32) := ⟨_, rfl⟩
  have b1 : Below w.heap.size w X1 := by rw [hX1]; exact (below_one _ _).trans ((below_one _ _).mono (by simp))
  have e0 : X1.heap[w.heap.size]? = some (.cells #[.slice ua 32 uc, .slice la 32 lc, .slice ia 32 ic, .slice pa 32 pc] 32 (0, 0)) := by rw [hX1, Below.heap_alloc _ _ _ (by simp)]; exact heap_alloc_new w _
  have e1 : X1.heap[w.heap.size + 1]? = some (.cells #[.slice none 0 0, .slice none 0 0, .slice none 0 0, .slice none 0 0] 32 (0, 0)) := by rw [hX1]; simpa using heap_alloc_new (w.alloc (.cells #[.slice ua 32 uc, .slice la 32 lc, .slice ia 32 ic, .slice pa 32 pc] 32)) (.cells #[.slice none 0 0, .slice none 0 0, .slice none 0 0, .slice none 0 0] 32)
  have H1 : Hid (Below w.heap.size w X1 ∧ X1.heap[w.heap.size]? = some (.cells #[.slice ua 32 uc, .slice la 32 lc, .slice ia 32 ic, .slice pa 32 pc] 32 (0, 0)) ∧ X1.heap[w.heap.size + 1]? = some (.cells #[.slice none 0 0, .slice none 0 0, .slice none 0 0, .slice none 0 0] 32 (0, 0))) := ⟨b1, e0, e1⟩
  obtain ⟨r0, r1, r2, r3, rl⟩ := c4_block e0
  clear b1 e0 e1
  have HS1 : Hid (Src Tryz.prog 1 26 (.slice ua 32 uc) 32 (U.flatMap encB) (X1.alloc (.cells #[] 4))) := src_row Tryz.underlying26 lenB (by omega) (fun x u hu => by simp [encB] at hu; subst hu; rfl) HIN.out.1 (below_alloc H1.out.1 H1.out.1.size _) (by omega)
  go_enter Tryz.func109, Tryz.ntmps109
  go_upto_region 1 with fail
  rw [← hX1]
  clear hX1
  go_wp2_with (at_builtin; refine wpList_own_append _ rfl _ _ 26 26 rfl X1.heap.size 4 iB0 _ 1 Tryz.underlying26 iBa iBb iBc iBd rfl _ 0 [] rfl (own_nil1 X1 _ 1) _ 32 _ rfl HS1.out ?c3 ?c4 ?c5 ?_)
  case c3 => unfold maxLen; omega
  case c4 => omega
  case c5 => simp
  intro vU wA ha
  obtain ⟨hrU, hbA⟩ := own_new1 (n := 32) (xs := U.flatMap encB) (by simpa using ha)
  obtain ⟨gu, cu, hvU, hgu, hgu'⟩ := own_sl hrU (by omega)
  subst hvU
  obtain ⟨X2, hX2⟩ : ∃ X2, X2 = wA.alloc (.cells #[.slice (some ⟨gu, 0, none⟩) 32 cu, .slice none 0 0, .slice none 0 0, .slice none 0 0] 32) := ⟨_, rfl⟩
  have hX2b : Below X1.heap.size X1 X2 := by rw [hX2]; exact below_alloc hbA hbA.size _
  have H2 : Hid (Below w.heap.size w X2 ∧ X2.heap[w.heap.size]? = some (.cells #[.slice ua 32 uc, .slice la 32 lc, .slice ia 32 ic, .slice pa 32 pc] 32 (0, 0)) ∧ X2.heap[w.heap.size + 1]? = some (.cells #[.slice none 0 0, .slice none 0 0, .slice none 0 0, .slice none 0 0] 32 (0, 0)) ∧ X2.heap[wA.heap.size]? = some (.cells #[.slice (some ⟨gu, 0, none⟩) 32 cu, .slice none 0 0, .slice none 0 0, .slice none 0 0] 32 (0, 0)) ∧ X2.ownsRow w.heap.size 4 1 (.slice (some ⟨gu, 0, none⟩) 32 cu) 32 (bl U) ∧ X1.heap.size ≤ gu ∧ gu < wA.heap.size ∧ w.heap.size + 1 < X1.heap.size) := by
    refine ⟨H1.out.1.trans (hX2b.mono H1.out.1.size), (hX2b.block _ rl).trans H1.out.2.1, (hX2b.block _ (lt_of_block H1.out.2.2)).trans H1.out.2.2, by rw [hX2]; exact heap_alloc_new wA _, ?_, hgu, hgu', lt_of_block H1.out.2.2⟩
    rw [hX2, ← bl_flat]
    exact row_low (row_below hrU (below_one _ _)) H1.out.1.size
  clear ha hrU hbA hX2b hgu hgu' r0 r1 r2 r3 rl HS1 H1
  obtain ⟨r0, r1, r2, r3, rl⟩ := c4_block H2.out.2.1
  have ol := lt_of_block H2.out.2.2.2.1
  have HS2 : Hid (Src Tryz.prog 1 26 (.slice la 32 lc) 32 (L.flatMap encB) (X2.alloc (.cells #[] 4))) := src_row Tryz.underlying26 lenB (by omega) (fun x u hu => by simp [encB] at hu; subst hu; rfl) HIN.out.2.1 (below_alloc H2.out.1 H2.out.1.size _) (by omega)
  go_upto_region 2 with fail
  rw [← hX2]
  clear hX2
  go_wp2_with (at_builtin; refine wpList_own_append _ rfl _ _ 26 26 rfl X2.heap.size 4 iB0 _ 1 Tryz.underlying26 iBa iBb iBc iBd rfl _ 0 [] rfl (own_nil1 X2 _ 1) _ 32 _ rfl HS2.out ?c3 ?c4 ?c5 ?_)
  case c3 => unfold maxLen; omega
  case c4 => omega
  case c5 => simp
  intro vL wB ha
  obtain ⟨hrL, hbB⟩ := own_new1 (n := 32) (xs := L.flatMap encB) (by simpa using ha)
  obtain ⟨gl, cl, hvL, hgl, hgl'⟩ := own_sl hrL (by omega)
  subst hvL
  have hoB : wB.heap[wA.heap.size]? = some (.cells #[.slice (some ⟨gu, 0, none⟩) 32 cu, .slice none 0 0, .slice none 0 0, .slice none 0 0] 32 (0, 0)) := (hbB.block _ ol).trans H2.out.2.2.2.1
  have of1 := fz_block hoB 1
  obtain ⟨o0, o1, o2, o3, ol2⟩ := c4_block hoB
  obtain ⟨X3, hX3⟩ : ∃ X3, X3 = wB.setCell ⟨wA.heap.size, 1, none⟩ (.slice (some ⟨gl, 0, none⟩) 32 cl) := ⟨_, rfl⟩
  have hoth : ∀ k, k ≠ wA.heap.size → X3.heap[k]? = wB.heap[k]? := fun k hk => by rw [hX3]; exact Below.heap_setCell _ _ _ _ (by simpa using hk)
  have hsz3 : X3.heap.size = wB.heap.size := by rw [hX3]; simp [World.setCell]
  have H3 : Hid (Below w.heap.size w X3 ∧ X3.heap[w.heap.size]? = some (.cells #[.slice ua 32 uc, .slice la 32 lc, .slice ia 32 ic, .slice pa 32 pc] 32 (0, 0)) ∧ X3.heap[w.heap.size + 1]? = some (.cells #[.slice none 0 0, .slice none 0 0, .slice none 0 0, .slice none 0 0] 32 (0, 0)) ∧ X3.heap[wA.heap.size]? = some (.cells #[.slice (some ⟨gu, 0, none⟩) 32 cu, .slice (some ⟨gl, 0, none⟩) 32 cl, .slice none 0 0, .slice none 0 0] 32 (0, 0)) ∧ X3.ownsRow w.heap.size 4 1 (.slice (some ⟨gu, 0, none⟩) 32 cu) 32 (bl U) ∧ X3.ownsRow w.heap.size 4 1 (.slice (some ⟨gl, 0, none⟩) 32 cl) 32 (bl L) ∧ (gu < gl ∧ gl < X3.heap.size ∧ wA.heap.size < X3.heap.size) ∧ gu < wA.heap.size ∧ wA.heap.size < gl ∧ w.heap.size + 1 < gu) := by
    have q := H2.out
    have hs2 : wA.heap.size < X2.heap.size := ol
    refine ⟨?_, (hoth _ (by omega)).trans ((hbB.block _ rl).trans q.2.1), (hoth _ (by omega)).trans ((hbB.block _ (lt_of_block q.2.2.1)).trans q.2.2.1), ?_, ?_, ?_, ⟨by omega, by omega, by omega⟩, q.2.2.2.2.2.2.1, by omega, by omega⟩
    · have hb0 := q.1.trans (hbB.mono q.1.size)
      rw [hX3]; exact hb0.setCell (by have := q.2.2.2.2.2; show w.heap.size ≤ wA.heap.size; omega) _
    · rw [hX3]; simpa using bx_set (j := 1) hoB (.slice (some ⟨gl, 0, none⟩) 32 cl)
    · exact row_kept (row_below q.2.2.2.2.1 hbB) (fun g hg => by simp [Value.ownBlock] at hg; exact hoth g (by omega))
    · rw [← bl_flat]
      exact row_low (row_kept hrL (fun g hg => by simp [Value.ownBlock] at hg; exact hoth g (by omega))) q.1.size
  clear ha hrL hbB hgl hgl' r0 r1 r2 r3 rl HS2 H2 hoth hsz3 hoB ol
  obtain ⟨r0, r1, r2, r3, rl⟩ := c4_block H3.out.2.1
  have ol := lt_of_block H3.out.2.2.2.1
  have HS3 : Hid (Src Tryz.prog 1 27 (.slice ia 32 ic) 32 (I.flatMap encU) (X3.alloc (.cells #[] 58))) := src_row Tryz.underlying27 lenU (by omega) (fun x u hu => by simp [encU] at hu; subst hu; rfl) HIN.out.2.2.1 (below_alloc H3.out.1 H3.out.1.size _) (by omega)
  go_upto_region 3 with fail
  rw [← hX3]
  clear hX3 o0 o1 o2 o3 of1 ol2
  go_wp2_with (at_builtin; refine wpList_own_append _ rfl _ _ 27 27 rfl X3.heap.size 58 iU0 _ 8 Tryz.underlying27 iUa iUb iUc iUd rfl _ 0 [] rfl (own_nil1 X3 _ 1) _ 32 _ rfl HS3.out ?c3 ?c4 ?c5 ?_)
  case c3 => unfold maxLen; omega
  case c4 => omega
  case c5 => simp
  intro vI wC ha
  obtain ⟨hrI, hbC⟩ := own_new1 (n := 32) (xs := I.flatMap encU) (by simpa using ha)
  obtain ⟨gi, ci, hvI, hgi, hgi'⟩ := own_sl hrI (by omega)
  subst hvI
  have hoC : wC.heap[wA.heap.size]? = some (.cells #[.slice (some ⟨gu, 0, none⟩) 32 cu, .slice (some ⟨gl, 0, none⟩) 32 cl, .slice none 0 0, .slice none 0 0] 32 (0, 0)) := (hbC.block _ ol).trans H3.out.2.2.2.1
  have of2 := fz_block hoC 2
  obtain ⟨o0, o1, o2, o3, ol2⟩ := c4_block hoC
  obtain ⟨X4, hX4⟩ : ∃ X4, X4 = wC.setCell ⟨wA.heap.size, 2, none⟩ (.slice (some ⟨gi, 0, none⟩) 32 ci) := ⟨_, rfl⟩
  have hoth : ∀ k, k ≠ wA.heap.size → X4.heap[k]? = wC.heap[k]? := fun k hk => by rw [hX4]; exact Below.heap_setCell _ _ _ _ (by simpa using hk)
  have hsz4 : X4.heap.size = wC.heap.size := by rw [hX4]; simp [World.setCell]
  have H4 : Hid (Below w.heap.size w X4 ∧ X4.heap[w.heap.size]? = some (.cells #[.slice ua 32 uc, .slice la 32 lc, .slice ia 32 ic, .slice pa 32 pc] 32 (0, 0)) ∧ X4.heap[w.heap.size + 1]? = some (.cells #[.slice none 0 0, .slice none 0 0, .slice none 0 0, .slice none 0 0] 32 (0, 0)) ∧ X4.heap[wA.heap.size]? = some (.cells #[.slice (some ⟨gu, 0, none⟩) 32 cu, .slice (some ⟨gl, 0, none⟩) 32 cl, .slice (some ⟨gi, 0, none⟩) 32 ci, .slice none 0 0] 32 (0, 0)) ∧ X4.ownsRow w.heap.size 4 1 (.slice (some ⟨gu, 0, none⟩) 32 cu) 32 (bl U) ∧ X4.ownsRow w.heap.size 4 1 (.slice (some ⟨gl, 0, none⟩) 32 cl) 32 (bl L) ∧ X4.ownsRow w.heap.size 58 1 (.slice (some ⟨gi, 0, none⟩) 32 ci) 32 (ul I) ∧ (gu < gl ∧ gl < gi ∧ gi < X4.heap.size ∧ wA.heap.size < X4.heap.size) ∧ gu < wA.heap.size ∧ wA.heap.size < gl ∧ w.heap.size + 1 < gu) := by
    have q := H3.out
    have hs3 : wA.heap.size < X3.heap.size := ol
    refine ⟨?_, (hoth _ (by omega)).trans ((hbC.block _ rl).trans q.2.1), (hoth _ (by omega)).trans ((hbC.block _ (lt_of_block q.2.2.1)).trans q.2.2.1), ?_, ?_, ?_, ?_, ⟨by omega, by omega, by omega, by omega⟩, q.2.2.2.2.2.2.2.1, by omega, by omega⟩
    · have hb0 := q.1.trans (hbC.mono q.1.size)
      rw [hX4]; exact hb0.setCell (by have := q.2.2.2.2.2.2; show w.heap.size ≤ wA.heap.size; omega) _
    · rw [hX4]; simpa using bx_set (j := 2) hoC (.slice (some ⟨gi, 0, none⟩) 32 ci)
    · exact row_kept (row_below q.2.2.2.2.1 hbC) (fun g hg => by simp [Value.ownBlock] at hg; exact hoth g (by omega))
    · exact row_kept (row_below q.2.2.2.2.2.1 hbC) (fun g hg => by simp [Value.ownBlock] at hg; exact hoth g (by omega))
    · rw [← ul_flat]
      exact row_low (row_kept hrI (fun g hg => by simp [Value.ownBlock] at hg; exact hoth g (by omega))) q.1.size
  clear ha hrI hbC hgi hgi' r0 r1 r2 r3 rl HS3 H3 hoth hsz4 hoC ol
  obtain ⟨r0, r1, r2, r3, rl⟩ := c4_block H4.out.2.1
  have ol := lt_of_block H4.out.2.2.2.1
  have HS4 : Hid (Src Tryz.prog 3 30 (.slice pa 32 pc) 32 (P.flatMap Pr3.cells) (X4.alloc (.cells #[] 140))) := src_row Tryz.underlying30 Pr3.len3 (by omega) (fun x u hu => by simp [Pr3.cells] at hu; rcases hu with rfl | rfl | rfl <;> rfl) HIN.out.2.2.2 (below_alloc H4.out.1 H4.out.1.size _) (by omega)
  go_upto_region 4 with fail
  rw [← hX4]
  clear hX4 o0 o1 o2 o3 of2 ol2
  go_wp2_with (at_builtin; refine wpList_own_append3 _ rfl _ _ 30 30 rfl X4.heap.size 140 iP0 _ 40 Tryz.underlying30 iPa iPb iPc iPd rfl _ 0 [] rfl (own_nil1 X4 _ 3) _ 32 _ rfl HS4.out ?c3 ?c4 ?c5 ?_)
  case c3 => unfold maxLen; omega
  case c4 => omega
  case c5 => simp
  intro vP wD ha
  obtain ⟨hrP, hbD⟩ := own_new3 (n := 32) (xs := P.flatMap Pr3.cells) (by simpa using ha)
  obtain ⟨gp, cp, hvP, hgp, hgp'⟩ := own_sl hrP (by omega)
  subst hvP
  have hoD : wD.heap[wA.heap.size]? = some (.cells #[.slice (some ⟨gu, 0, none⟩) 32 cu, .slice (some ⟨gl, 0, none⟩) 32 cl, .slice (some ⟨gi, 0, none⟩) 32 ci, .slice none 0 0] 32 (0, 0)) := (hbD.block _ ol).trans H4.out.2.2.2.1
  have of3 := fz_block hoD 3
  obtain ⟨o0, o1, o2, o3, ol2⟩ := c4_block hoD
  obtain ⟨X5, hX5⟩ : ∃ X5, X5 = wD.setCell ⟨wA.heap.size, 3, none⟩ (.slice (some ⟨gp, 0, none⟩) 32 cp) := ⟨_, rfl⟩
  have hoth : ∀ k, k ≠ wA.heap.size → X5.heap[k]? = wD.heap[k]? := fun k hk => by rw [hX5]; exact Below.heap_setCell _ _ _ _ (by simpa using hk)
  have hsz5 : X5.heap.size = wD.heap.size := by rw [hX5]; simp [World.setCell]
  have H5 : Hid (Below w.heap.size w X5 ∧ X5.heap[w.heap.size + 1]? = some (.cells #[.slice none 0 0, .slice none 0 0, .slice none 0 0, .slice none 0 0] 32 (0, 0)) ∧ X5.heap[wA.heap.size]? = some (.cells #[.slice (some ⟨gu, 0, none⟩) 32 cu, .slice (some ⟨gl, 0, none⟩) 32 cl, .slice (some ⟨gi, 0, none⟩) 32 ci, .slice (some ⟨gp, 0, none⟩) 32 cp] 32 (0, 0)) ∧ RfO w.heap.size X5 gu cu gl cl gi ci gp cp U L I P ∧ w.heap.size + 1 < gu) := by
    have q := H4.out
    refine ⟨?_, (hoth _ (by omega)).trans ((hbD.block _ (lt_of_block q.2.2.1)).trans q.2.2.1), ?_, ⟨?_, ?_, ?_, ?_, ⟨by omega, by omega, by omega⟩, ?_, ?_⟩, by omega⟩
    · have hb0 := q.1.trans (hbD.mono q.1.size)
      rw [hX5]; exact hb0.setCell (by have := q.2.2.2.2.2.2.2; show w.heap.size ≤ wA.heap.size; omega) _
    · rw [hX5]; simpa using bx_set (j := 3) hoD (.slice (some ⟨gp, 0, none⟩) 32 cp)
    · exact row_kept (row_below q.2.2.2.2.1 hbD) (fun g hg => by simp [Value.ownBlock] at hg; exact hoth g (by omega))
    · exact row_kept (row_below q.2.2.2.2.2.1 hbD) (fun g hg => by simp [Value.ownBlock] at hg; exact hoth g (by omega))
    · exact row_kept (row_below q.2.2.2.2.2.2.1 hbD) (fun g hg => by simp [Value.ownBlock] at hg; exact hoth g (by omega))
    · exact row_low (row_kept hrP (fun g hg => by simp [Value.ownBlock] at hg; exact hoth g (by omega))) q.1.size
    · exact inrow_ok HIN.out.2.2.1 (by omega)
    · exact inrow_ok HIN.out.2.2.2 (by omega)
  clear ha hrP hbD hgp hgp' r0 r1 r2 r3 rl HS4 H4 hoth hsz5 hoD ol
  go_upto_region 5 with fail
  rw [← hX5]
  clear hX5 o0 o1 o2 o3 of3 ol2
  obtain ⟨o0, o1, o2, o3, ol⟩ := c4_block H5.out.2.2.1
  have hres := H5.out.2.1
  obtain ⟨s0, s1, s2, s3, sl⟩ := c4_block hres
  have sf := fz_block hres
  have hbb := H5.out.1
  have hrf := H5.out.2.2.2.1
  have hgu := H5.out.2.2.2.2
  go_wp2
  have hW : ∀ k, k ≠ w.heap.size + 1 → ((((X5.setCell ⟨w.heap.size + 1, 0, none⟩ (.slice (some ⟨gu, 0, none⟩) 32 cu)).setCell ⟨w.heap.size + 1, 1, none⟩ (.slice (some ⟨gl, 0, none⟩) 32 cl)).setCell ⟨w.heap.size + 1, 2, none⟩ (.slice (some ⟨gi, 0, none⟩) 32 ci)).setCell ⟨w.heap.size + 1, 3, none⟩ (.slice (some ⟨gp, 0, none⟩) 32 cp)).heap[k]? = X5.heap[k]? := fun k hk => by
    rw [Below.heap_setCell _ _ _ _ (by simpa using hk), Below.heap_setCell _ _ _ _ (by simpa using hk), Below.heap_setCell _ _ _ _ (by simpa using hk), Below.heap_setCell _ _ _ _ (by simpa using hk)]
  refine bodyPost_ret (v := rfv gu cu gl cl gi ci gp cp) (by simp [results, Tryz.results109, go_sem, rfv, *]) rfl ⟨gu, cu, gl, cl, gi, ci, gp, cp, rfl, hrf.kept (fun g hg => hW g (by omega)), ?_⟩
  exact (((hbb.setCell (by simp) _).setCell (by simp) _).setCell (by simp) _).setCell (by simp) _
end Go.Proofs.YtmajlldfiiokoaaGreatDoor
