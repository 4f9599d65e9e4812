/- The document's window: a list of events. -/
import Derived.Test.YtmnlbheicedloabDoorWiLaw
import Derived.Test.YtmnlbheicedloabDoorWiRow
import Derived.Test.YtmnlbheicedloabDoorOwnSrc2
import Derived.Test.YtmnlbheicedloabDoorRowMath
import Derived.Deep.AppendSrc
import Derived.Deep.AppendLies
import Derived.Deep.RegionWith
import Derived.Deep.LoopGhost
import Derived.Deep.CutBlock
import Derived.Deep.DeepCutAuto
import Derived.Deep.QuietTactic
import Derived.BigQuiet
namespace Go.Proofs.YtmnlbheicedloabDoor
open Go.ChangeShapes Go.WideShapes Go.ChangeAt Go.RowKit
set_option linter.unusedVariables false

theorem Tryd.infoE2 : (Tryd.prog.info? 30).map (fun i => (i.zero, i.size, i.bytes)) = some (some (.agg #[.int .i64 0, .int .i64 0]), 2, 16) := by kernel_rfl
theorem winfo {P : Program} {t : TypeId} {z : Option Value} {s b : Nat} (h : (P.info? t).map (fun i => (i.zero, i.size, i.bytes)) = some (z, s, b)) : ∃ i, P.info? t = some i ∧ i.zero = z ∧ i.size = s ∧ i.bytes = b := by
  cases hh : P.info? t with
  | none => rw [hh] at h; simp at h
  | some i => rw [hh] at h; simp at h; exact ⟨i, rfl, h.1, h.2.1, h.2.2⟩
theorem lt_of_blockW {w : World} {g : Nat} {o : Obj} (h : w.heap[g]? = some o) : g < w.heap.size := by
  rcases Nat.lt_or_ge g w.heap.size with q | q
  · exact q
  · rw [Array.getElem?_eq_none q] at h; cases h
/-- A list of events lies somewhere; D: blocks that it keeps clear of. -/
structure EvRow (w : World) (B : Nat) (v : Value) (L : List (Int × Int)) : Prop where
  row : w.ownsRow B 30 2 v L.length (L.flatMap encP)
  most : L.length ≤ 100
theorem row_atR {w w' : World} {B : Nat} {e : TypeId} {k n : Nat} {vs : Value} {xs : List Value} (h : w.ownsRow B e k vs n xs) (hb : ∀ x, vs.ownBlock = some x → w'.heap[x]? = w.heap[x]?) : w'.ownsRow B e k vs n xs := by
  refine ⟨h.1, ?_⟩
  rcases h.2 with h1 | ⟨g', cap, cur, hv, hbg, hg, hr⟩
  · exact .inl h1
  · exact .inr ⟨g', cap, cur, hv, hbg, (hb g' (by rw [hv]; rfl)).trans hg, hr⟩
theorem EvRow.below {w w' : World} {B : Nat} {v : Value} {L : List (Int × Int)} (h : EvRow w B v L) (hb : Below w.heap.size w w') : EvRow w' B v L := ⟨row_atR h.row (fun k hk => hb.block k (h.row.lt k hk).2), h.most⟩
theorem EvRow.shape {w : World} {B : Nat} {v : Value} {L : List (Int × Int)} (h : EvRow w B v L) : ∃ a c, v = .slice a L.length c := by
  rcases h.row.2 with ⟨rfl, h2⟩ | ⟨gg, c, cur, hv, _⟩
  · exact ⟨none, 0, by rw [h2]⟩
  · exact ⟨_, c, hv⟩
theorem EvRow.at {w : World} {B : Nat} {a : Option Addr} {len cap : Nat} {L : List (Int × Int)} (h : EvRow w B (.slice a len cap) L) {j : Nat} (hj : j < L.length) :
    ∃ b, a = some ⟨b, 0, none⟩ ∧ b < w.heap.size ∧ w.cell? ⟨b, j * 2, none⟩ = some (.int .i64 (L.getD j (0, 0)).1) ∧ w.cell? ⟨b, j * 2 + 1, none⟩ = some (.int .i64 (L.getD j (0, 0)).2) := by
  rcases h.row.2 with ⟨_, h2⟩ | ⟨gg, c, cur, hv, hbg, hg, hr⟩
  · omega
  · have hc : ∀ k, k < 2 → w.cell? ⟨gg, j * 2 + k, none⟩ = (encP (L.getD j (0, 0)))[k]? := fun k hk => by
      have hx := flat_get encP 2 lenP (0, 0) L j k hj hk
      have hk' : k < (encP (L.getD j (0, 0))).length := hk
      have e := h.row.cells (g := gg) (by rw [hv]; rfl) (j * 2 + k) ((encP (L.getD j (0, 0)))[k]) (by rw [hx, List.getElem?_eq_getElem hk'])
      have ea : (⟨gg, 0, none⟩ : Addr).add (j * 2 + k) = ⟨gg, j * 2 + k, none⟩ := by unfold Addr.add; split <;> simp_all
      rw [ea] at e
      rw [e, List.getElem?_eq_getElem hk']
    simp only [Value.slice.injEq] at hv
    refine ⟨gg, hv.1, lt_of_blockW hg, ?_, ?_⟩
    · have := hc 0 (by omega); simpa [encP] using this
    · have := hc 1 (by omega); simpa [encP] using this
theorem lastL_take (L : List (Int × Int)) (p : Int) (j : Nat) (hj : j < L.length) : lastL (L.take (j + 1)) p = if (L.getD j (0, 0)).1 = p then max (lastL (L.take j) p) (L.getD j (0, 0)).2 else lastL (L.take j) p := by
  rw [List.take_succ_eq_append_getElem hj]
  have e : L.getD j (0, 0) = L[j] := by rw [List.getD_eq_getElem?_getD, List.getElem?_eq_getElem hj]; rfl
  rw [e]
  exact lastL_snoc _ _ _ _

set_option maxHeartbeats 2000000 in
theorem rlast_any (B : Nat) (a : Option Addr) (c : Nat) (L : List (Int × Int)) (p : Int) (w : World) (h : EvRow w B (.slice a L.length c) L) :
    Calls Tryd.prog 9 #[.slice a L.length c, .int .i64 p] w fun e w' => e = .returned (.int .i64 (lastL L p)) ∧ Below w.heap.size w w' := by
  have hmost := h.most
  have HX : Hid (EvRow w B (.slice a L.length c) L) := h
  obtain ⟨m, hm⟩ : ∃ m, m = L.length := ⟨_, rfl⟩
  rw [← hm] at hmost HX ⊢
  have HM : Hid (m = L.length) := hm
  clear h hm
  go_enter Tryd.func9, Tryd.ntmps9
  go_wp2
  go_loopw [5, 10] (fun x y wr => ∃ j : Nat, y = .int .i64 j ∧ j ≤ m ∧ x = .int .i64 (lastL (L.take j) p) ∧ Hid (Below w.heap.size w wr)) (fun _ y _ => m - (intOf y).toNat)
  case atStart => exact ⟨0, rfl, Nat.zero_le _, rfl, Below.refl _ _⟩
  case round =>
    obtain ⟨j, rfl, hj, rfl, HB⟩ := hrel
    by_cases hlt : j < m
    · obtain ⟨bb, ha, hbb, r0, r1⟩ := (HX.out.below HB.out).at (j := j) (by rw [← HM.out]; exact hlt)
      subst ha
      have hs := lastL_take L p j (by rw [← HM.out]; exact hlt)
      obtain ⟨⟨x0, x1⟩, hx⟩ : ∃ x, x = L.getD j (0, 0) := ⟨_, rfl⟩
      rw [← hx] at r0 r1 hs
      simp only at r0 r1 hs
      have hj0 : (0 : Int) ≤ (j : Int) := Int.natCast_nonneg _
      have hj1 : (j : Int) < (m : Int) := by omega
      obtain ⟨l, hl⟩ : ∃ l, l = lastL (L.take j) p := ⟨_, rfl⟩
      rw [← hl] at hs ⊢
      have HS : Hid _ := hs
      clear hx hs hl
      by_cases e0 : x0 = p
      · subst e0
        by_cases e1 : l < x1
        · go_wp2
          go_roundw
          case rel => exact ⟨j + 1, by go_num, by omega, int_eq (by rw [HS.out, if_pos rfl]; omega), HB.out.trans ((below_oneW _ _).mono HB.out.size)⟩
          case measure => simp [intOf]; omega
        · go_wp2
          go_roundw
          case rel => exact ⟨j + 1, by go_num, by omega, int_eq (by rw [HS.out, if_pos rfl]; omega), HB.out.trans ((below_oneW _ _).mono HB.out.size)⟩
          case measure => simp [intOf]; omega
      · have e0' : (x0 == p) = false := by simpa using e0
        go_wp2
        go_roundw
        case rel => exact ⟨j + 1, by go_num, by omega, int_eq (by rw [HS.out, if_neg e0]), HB.out.trans ((below_oneW _ _).mono HB.out.size)⟩
        case measure => simp [intOf]; omega
    · have hj1 : ¬ (j : Int) < (m : Int) := by omega
      obtain rfl : j = m := by omega
      go_wp2
      go_ret
      exact ⟨ret_i (by rw [HM.out, List.take_length]), HB.out⟩
end Go.Proofs.YtmnlbheicedloabDoor
