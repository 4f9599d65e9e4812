/- filter.Parse. -/
import Derived.Test.YtpepbhmdfjpblaaGreatDoorFilParse
namespace Go.Proofs.YtpepbhmdfjpblaaGreatDoor
open Go.ChangeShapes Go.WideShapes Go.ChangeAt Go.RowKit
set_option linter.unusedVariables false

/-- A text's filter. -/
def pars (l : List UInt8) : Ps (List Pl) := rFil (l.length + 1) [] l
def sFilter : ByteArray := ⟨#[102, 105, 108, 116, 101, 114]⟩
/-- A fault of package filter lies in block N: its place, its code. -/
def FaultAt (w : World) (N : Nat) (at' c : Int) : Prop := w.heap[N]? = some (.cells #[.string ⟨#[102, 105, 108, 116, 101, 114]⟩, .int .i64 at', .iface 36 (.int .i64 c)] 172 (0, 0))
/-- What Parse answers. -/
def ParsAns (e : Ending) (w w' : World) (s : ByteArray) : Prop :=
  if 300 < s.size then ∃ N, e = .returned (.tuple #[.slice none 0 0, .iface 170 (.pointer (some ⟨N, 0, none⟩))]) ∧ FaultAt w' N 0 1
  else match pars s.data.toList with
    | .ok ps _ => ∃ v, e = .returned (.tuple #[v, .nilIface]) ∧ w'.ownsRow w.heap.size 148 5 v ps.length (ps.flatMap Pl.cells)
    | .fail _ r => ∃ N, e = .returned (.tuple #[.slice none 0 0, .iface 170 (.pointer (some ⟨N, 0, none⟩))]) ∧ FaultAt w' N ((s.size - r.length : Nat) : Int) 2

theorem below_drew1 {B : Nat} {a w : World} (h : Below B a w) : Below B a w.drew := h.trans ⟨rfl, rfl, rfl, Nat.le_refl _, fun _ _ => rfl⟩
set_option maxHeartbeats 2000000 in
theorem parse_any (s : ByteArray) (w : World) (E : Env w) (hs : s.size ≤ maxLen) :
    Calls Tryz.prog 66 #[.string s] w fun e w' => ParsAns e w w' s ∧ Below w.heap.size w w' := by
  by_cases hl : 300 < s.size
  · unfold maxLen at hs
    have HA : Hid (∀ e w', (∃ N, e = .returned (.tuple #[.slice none 0 0, .iface 170 (.pointer (some ⟨N, 0, none⟩))]) ∧ FaultAt w' N 0 1) → ParsAns e w w' s) := fun e w' hh => by
      unfold ParsAns; rw [if_pos hl]; exact hh
    go_enter Tryz.func66, Tryz.ntmps66
    go_wp2
    go_ret2
    exact ⟨HA.out _ _ ⟨_, rfl, heap_alloc_new w _⟩, (Below.refl _ _).alloc (Nat.le_refl _) _⟩
  · have hs3 : s.size ≤ 1000 := by omega
    obtain ⟨W, hW⟩ : ∃ W, W = w.alloc (.cells #[.string s, .int .i64 0] 207) := ⟨_, rfl⟩
    have hb : Below w.heap.size w W := by rw [hW]; exact (Below.refl _ _).alloc (Nat.le_refl _) _
    have hR : Rd W w.heap.size s 0 := ⟨by rw [hW]; exact heap_alloc_new w _, Nat.zero_le _⟩
    have hc := filter_r w.heap.size s 0 w W E hb (Nat.le_refl _) hR hs3
    have e0 : dr s 0 = s.data.toList := by simp [dr]
    rw [e0] at hc
    have HB : Hid (Below w.heap.size w W ∧ w.heap.size < W.heap.size) := ⟨hb, hR.lt⟩
    have HL : Hid (¬ 300 < s.size) := hl
    clear E hb hR e0
    unfold maxLen at hs
    go_enter Tryz.func66, Tryz.ntmps66
    go_wp2_with fail
    rw [← hW]
    clear hW
    refine hc.mono ?_
    clear hc
    rintro e w1 ⟨hA, k1, hR1, hk1, hK1⟩
    have hb1 := hK1.below HB.out.1 (Nat.le_refl _) HB.out.1.size
    cases hres : rFil (s.data.toList.length + 1) [] s.data.toList with
    | fail ee r =>
      rw [hres] at hA hk1
      have hA' : e = .returned (.tuple #[.slice none 0 0, ec ee]) := hA
      have hpos := dr_pos hR1.le hk1
      have HP : Hid (∀ e w', (∃ N, e = .returned (.tuple #[.slice none 0 0, .iface 170 (.pointer (some ⟨N, 0, none⟩))]) ∧ FaultAt w' N (k1 : Int) 2) → ParsAns e w w' s) := fun e w' hh => by
        have ep : pars s.data.toList = .fail ee r := hres
        unfold ParsAns; rw [if_neg HL.out, ep]
        rw [hpos] at hh
        exact hh
      have HB1 : Hid (Below w.heap.size w w1) := hb1
      have c1 := hR1.c1
      have cl := hR1.lt
      subst hA'
      clear hA hk1 hK1 hb1 hR1 hres hpos
      cases ee
      all_goals
        simp only [ec]
        go_wp2_with fail
        go_region
        go_wp2
        go_ret2
        refine ⟨HP.out _ _ ⟨_, rfl, ?_⟩, ?_⟩
        · exact heap_alloc_new w1 _
        · exact below_drew1 (HB1.out.trans (((Below.refl _ _).alloc (Nat.le_refl _) _ : Below w1.heap.size w1 (w1.alloc _)).mono HB1.out.size))
    | ok ps r =>
      rw [hres] at hA
      obtain ⟨v, hv, hrow⟩ := hA
      have HP : Hid (∀ e w', (∃ v, e = .returned (.tuple #[v, .nilIface]) ∧ w'.ownsRow w.heap.size 148 5 v ps.length (ps.flatMap Pl.cells)) → ParsAns e w w' s) := fun e w' hh => by
        have ep : pars s.data.toList = .ok ps r := hres
        unfold ParsAns; rw [if_neg HL.out, ep]
        exact hh
      have HRow : Hid (w1.ownsRow w.heap.size 148 5 v ps.length (ps.flatMap Pl.cells) ∧ Below w.heap.size w w1) := by
        refine ⟨⟨hrow.1, ?_⟩, hb1⟩
        rcases hrow.2 with h1 | ⟨g', cap, cur, hvv, hbg, hr⟩
        · exact .inl h1
        · exact .inr ⟨g', cap, cur, hvv, by have := HB.out.2; omega, hr⟩
      subst hv
      clear hrow hk1 hR1 hK1 hb1 hres
      go_wp2
      go_ret2
      exact ⟨HP.out _ _ ⟨v, rfl, HRow.out.1⟩, HRow.out.2⟩
end Go.Proofs.YtpepbhmdfjpblaaGreatDoor
