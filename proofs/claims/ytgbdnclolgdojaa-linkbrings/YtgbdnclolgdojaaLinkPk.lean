/- link.Packets. -/
import Derived.Test.YtgbdnclolgdojaaLinkTake
import Derived.Deep.RegionHeld3
import Derived.Deep.AppendLies
import Derived.Deep.RegionLaw
import Derived.RegionTactic
namespace Go.Proofs.Ytgbdnclolgdojaa
open Go.ChangeShapes Go.WideShapes Go.ChangeAt Go.RowKit
set_option linter.unusedVariables false

theorem row_carry1 {w w' : World} {B : Nat} {e : TypeId} {vs : Value} {n : Nat} {xs : List Value} (h : w.ownsRow B e 1 vs n xs) (hb : Below w.heap.size w w') : w'.ownsRow B e 1 vs n xs := by
  refine ⟨h.1, ?_⟩
  rcases h.2 with h1 | ⟨g', cap, cur, hv, hbg, hg, hr⟩
  · exact .inl h1
  · exact .inr ⟨g', cap, cur, hv, hbg, (hb.block g' (lt_of_block hg)).trans hg, hr⟩

/-- The packets of an end: their bytes. -/
def Lk.pks (l : Lk) : List (List UInt8) :=
  if l.q = [] then (if l.owes then [pkB (-1) l.came ByteArray.empty] else []) else (List.range (min l.q.length 8)).map fun i : Nat => pkB (l.acked + (i : Int)) l.came (tx l.q i)
def bys (P : List ByteArray) : List (List UInt8) := P.map fun s => s.data.toList

set_option maxRecDepth 100000 in
set_option maxHeartbeats 1000000 in
theorem packets_nil (base p o : Nat) (l : Lk) (w : World) (h : LkAt base w p o l) (hq : l.q = []) (ho : l.owes = false) :
    Calls Try.prog 8 #[.pointer (some ⟨p, o, none⟩)] w
      fun e w' => e = .returned (.slice none 0 0) ∧ LkAt base w' p o { l with owes := false } ∧ (Chg w w' p o ∧ w'.cell? ⟨p, o, none⟩ = w.cell? ⟨p, o, none⟩) := by
  obtain ⟨a, c, h1, h2, _⟩ := h.q
  rw [hq] at h1
  have h3 := h.k3
  rw [ho] at h3
  have hfz := h.fz
  have HH : Hid (LkAt base w p o l) := h
  clear h hq ho h2
  simp only [List.length_nil] at h1
  go_enter Try.func8, Try.ntmps8
  go_wp2_with fail
  go_quiet (fail)
  go_wp2
  refine wp_loop_rounds 1 ?_
  rw [rounds_succ]
  go_wp2
  go_ret
  exact ⟨rfl, ((HH.out.drewN _).setO false).1, ⟨((Chg.refl _ _ _).drewN _).trans ((HH.out.drewN _).setO false).2, set_other (by omega)⟩⟩

theorem one_row (w : World) (S : ByteArray) : TxRow w.heap.size (w.alloc (.cells #[.string S] 9)) (some ⟨w.heap.size, 0, none⟩) [S] := .inr ⟨w.heap.size, 0, rfl, Nat.le_refl _, by simp, fun j hj => by
    obtain rfl : j = 0 := by simp at hj; omega
    simp [tx]⟩

set_option maxRecDepth 100000 in
set_option maxHeartbeats 1000000 in
theorem packets_ack (base p o : Nat) (l : Lk) (w : World) (h : LkAt base w p o l) (hq : l.q = []) (ho : l.owes = true) (hc : i64 l.came) :
    Calls Try.prog 8 #[.pointer (some ⟨p, o, none⟩)] w
      fun e w' => ∃ (v : Value) (S : ByteArray), e = .returned v ∧ w'.ownsRow w.heap.size 9 1 v 1 (txs [S]) ∧ S.data.toList = pkB (-1) l.came ByteArray.empty ∧ LkAt base w' p o { l with owes := false } ∧ (Chg w w' p o ∧ w'.cell? ⟨p, o, none⟩ = w.cell? ⟨p, o, none⟩) := by
  obtain ⟨i0, hi, hz0, hz1, hz2⟩ := info_parts Try.infoStr
  obtain ⟨a, c, h1, h2, _⟩ := h.q
  rw [hq] at h1
  have h3 := h.k3
  have h4 := h.k2
  rw [ho] at h3
  have hfz := h.fz
  have hlt := h.lt
  have HH : Hid (LkAt base w p o l) := h
  have hsp := fun W => spell_any (-1) l.came { data := #[] } W (by unfold i64; omega) hc (by decide)
  have HSP : Hid _ := hsp
  clear h hq ho h2 hsp
  simp only [List.length_nil] at h1
  go_enter Try.func8, Try.ntmps8
  go_wp2_with fail
  go_quiet (fail)
  go_wp2
  refine wp_loop_rounds 1 ?_
  rw [rounds_succ]
  go_wp2_with fail
  refine (HSP.out _).mono ?_
  rintro e w1 ⟨⟨S, rfl, hS⟩, hb1⟩
  have H1 : Hid (LkAt base w1 p o l ∧ Below w.heap.size w w1 ∧ S.data.toList = pkB (-1) l.came ByteArray.empty) := ⟨(HH.out.drewN _).below hb1, ⟨hb1.os, hb1.tape, hb1.output, hb1.size, hb1.block⟩, hS⟩
  clear hb1 hS
  go_wp2_with (at_builtin; refine wpList_own_append _ rfl _ _ 22 22 rfl w.heap.size 9 i0 _ 16 Try.underlying22 hi hz0 hz1 hz2 rfl _ _ _ rfl (World.ownsRow_nil _ w.heap.size 9 1) _ 1 (txs [S]) rfl ((one_row w1 S).src (c := 1)) ?c3 ?c4 ?c5 ?_)
  case c3 => unfold maxLen; omega
  case c4 => omega
  case c5 => have := H1.out.2.1.size; simp; omega
  intro v w2 ha
  have hg := ha.grown
  have hb2 : Below w1.heap.size w1 w2 := ((Below.refl _ _).alloc (Nat.le_refl _) _).trans ⟨hg.os, hg.tape, hg.output, hg.size, fun k hk => hg.block k (by simp; omega) (by simp [Value.ownBlock])⟩
  have hL2 := H1.out.1.below hb2
  have k3 := hL2.k3
  have kf := hL2.fz
  have kl := hL2.lt
  have hX := hL2.setO false
  obtain ⟨a', c', hv'⟩ := ha.shape
  have hrow := ha.row
  subst hv'
  have hne : (Value.slice a' 1 c').ownBlock ≠ some p := fun e => by
    rcases ha.new p e with h5 | h5
    · simp [Value.ownBlock] at h5
    · have := H1.out.2.1.size; simp at h5; omega
  have hrow' := ownsRow_setCell_other hrow (a := ⟨p, o + 3, none⟩) hne (.bool false)
  have HX : Hid (LkAt base (w2.setCell ⟨p, o + 3, none⟩ (.bool false)) p o { l with owes := false } ∧ (Chg w (w2.setCell ⟨p, o + 3, none⟩ (.bool false)) p o ∧ (w2.setCell ⟨p, o + 3, none⟩ (.bool false)).cell? ⟨p, o, none⟩ = w.cell? ⟨p, o, none⟩) ∧ (w2.setCell ⟨p, o + 3, none⟩ (.bool false)).ownsRow w.heap.size 9 1 (.slice a' 1 c') 1 (txs [S])) := ⟨hX.1, ⟨(Chg.ofBelow (H1.out.2.1.trans (hb2.mono H1.out.2.1.size)) hlt).trans hX.2, (set_other (by omega)).trans ((H1.out.2.1.trans (hb2.mono H1.out.2.1.size)).cell (p := ⟨p, o, none⟩) hlt)⟩, by simpa using hrow'⟩
  clear ha hg hb2 hL2 hX hrow hne hrow'
  go_wp2
  go_ret
  exact ⟨_, S, rfl, HX.out.2.2, H1.out.2.2, HX.out.1, HX.out.2.1⟩
end Go.Proofs.Ytgbdnclolgdojaa
