/- New, of any places: a ring with what holds always, or none; what a Join gives. -/
import Derived.Test.YtmajlldfiiokoaaGreatDoorChHop
namespace Go.Proofs.YtmajlldfiiokoaaGreatDoor
open Go.ChangeShapes Go.WideShapes Go.ChangeAt Go.RowKit Go.Deep
set_option linter.unusedVariables false

/-- A ring that is ours: none of its parts lies in what came in. -/
structure Rn (w wr : World) (r gp gk : Nat) (R : Rg) : Prop where
  ring : RingAt wr r gp gk R
  inv : Inv R
  bel : Below w.heap.size w wr
  gp : w.heap.size ≤ gp
  gk : w.heap.size ≤ gk
theorem Rn.below {w wr w' : World} {r gp gk : Nat} {R : Rg} (h : Rn w wr r gp gk R) (hb : Below wr.heap.size wr w') : Rn w w' r gp gk R :=
  ⟨h.ring.below hb, h.inv, h.bel.trans (hb.mono h.bel.size), h.gp, h.gk⟩
theorem Rn.step {w wr w' : World} {r gp gk : Nat} {R R' : Rg} (h : Rn w wr r gp gk R) (hr : RingAt w' r gp gk R') (hi : Inv R') (k : Kp wr w' gp gk) : Rn w w' r gp gk R' :=
  ⟨hr, hi, h.bel.trans (k.below h.gp h.gk h.bel.size), h.gp, h.gk⟩
theorem getD_u64 {w : World} {a : Option Addr} {n : Nat} {l : List Int} (h : IdIn w a n l) (k : Nat) : Plc (l.getD k 0) := by
  by_cases hk : k < n
  · obtain ⟨b, o, _, _, hu, _⟩ := h.one (v := Value.int .u64) (fun _ => rfl) (i := k) hk
    exact hu
  · have := h.1
    have e : l.getD k 0 = 0 := by simp [List.getD, List.getElem?_eq_none (show l.length ≤ k by omega)]
    rw [e]; unfold Plc; omega
theorem new_any (a : Option Addr) (n cap : Nat) (l : List Int) (w : World) (h : IdIn w a n l) :
    Calls Tryz.prog 44 #[.slice a n cap] w fun e w' =>
      ((∃ c : Int, (c = 1 ∨ c = 8) ∧ e = .returned (.tuple #[.pointer none, .iface 116 (.int .i64 c)])) ∨
       (∃ (r gp gk : Nat) (R : Rg), e = .returned (.tuple #[.pointer (some ⟨r, 0, none⟩), .nilIface]) ∧ Rn w w' r gp gk R ∧ w.heap.size ≤ r)) ∧ Below w.heap.size w w' := by
  by_cases hn : n ≠ 4
  · refine (new_len a n cap w hn h.2.1).mono ?_
    rintro e w' ⟨he, hb⟩
    exact ⟨.inl ⟨1, .inl rfl, he⟩, hb⟩
  · obtain rfl : n = 4 := by omega
    refine (new_four a cap l w h).mono ?_
    rintro e w' ⟨h2, hb⟩
    rcases h2 with ⟨S, hp, hm, hl, he⟩ | ⟨S, r, gp, gk, hp, hm, hl, he, hr, g1, g2, g3⟩
    · exact ⟨.inl ⟨8, .inr rfl, he⟩, hb⟩
    · obtain ⟨c0, c1, c2, c3, hc⟩ := circ_of h.1 hp hm hl
      exact ⟨.inr ⟨r, gp, gk, _, he, ⟨hr, hc.inv hp hm (getD_u64 h), hb, g2, g3⟩, g1⟩, hb⟩
theorem errV_nil {c : Int} (h : c = 0) : errV c = .nilIface := if_pos h
theorem errV_code {c : Int} (h : c ≠ 0) : errV c = .iface 116 (.int .i64 c) := if_neg h
/-- What a Join gives that goes through. -/
theorem Inv.joins {R : Rg} (h : Inv R) {n id via : Int} (hid : Plc id) (hc : R.joinC n id via = 0) :
    ∃ a p, R.kn a = some p ∧ (R.join n id via).kn n = some ⟨id, a, p.succ⟩ ∧ (R.join n id via).kn a = some p ∧ p.succ.length = 3 ∧ (R.join n id via).lives n = true ∧ (R.join n id via).lives a = true ∧
      (R.join n id via).head n = (R.join n id via).head a ∧ p.id = (R.join n id via).idOf a ∧ withinB id p.id ((R.join n id via).idOf ((R.join n id via).head n)) = true ∧ 0 ≤ (R.join n id via).head n ∧ i64 a := by
  obtain ⟨h1, h2, h3, h4, h5, h6⟩ := h.join_at hid hc
  have hJ := h.join n id via hid
  have e : R.join n id via = R.joined n id (R.ahead id via) := if_pos hc
  rw [e] at hJ ⊢
  generalize R.ahead id via = a at *
  have hne : a ≠ n := fun q => by have := h.pl a h1; rw [q, h6] at this; cases this
  have hl1 : (R.joined n id a).lives n = true := by rw [lives_joined, if_pos rfl]
  have hl2 : (R.joined n id a).lives a = true := by rw [lives_joined, if_neg hne]; exact h1
  cases hk : R.kn a with
  | none => simp [Rg.lives, hk] at h1
  | some p =>
    have hp : R.know a = p := by simp [Rg.know, hk]
    have hkn : (R.joined n id a).kn n = some ⟨id, a, p.succ⟩ := by simp [Rg.joined, Rg.setK, Rg.setP, upd, hp]
    have hka : (R.joined n id a).kn a = some p := by simp [Rg.joined, Rg.setK, Rg.setP, upd, hne, hk]
    have hh : (R.joined n id a).head n = (R.joined n id a).head a := by unfold Rg.head; simp [Rg.know, hkn, hka]
    have hpid : p.id = (R.joined n id a).idOf a := by
      have := hJ.id a hl2
      simpa [Rg.know, hka] using this
    have hio : ∀ x, x ≠ n → (R.joined n id a).idOf x = R.idOf x := fun x hx => by unfold Rg.idOf; rw [pl_joined, if_neg hx]
    have hr := h.rng a h1
    have hlen := h.len a h1
    rw [hp] at hlen
    have hhd : (R.joined n id a).head a = R.head a := by
      unfold Rg.head
      rw [hJ.lv, h.lv]
      simp only [Rg.know, hka, hk, Option.getD_some]
      have hm := h.mem a h1
      rw [hp] at hm
      generalize p.succ = l at hm
      induction l with
      | nil => rfl
      | cons x l ih =>
        have hx : x ≠ n := fun q => by have := hm x (by simp); rw [q, h6] at this; cases this
        simp only [headF, lives_joined, if_neg hx]
        rw [ih (fun y hy => hm y (by simp [hy]))]
    have hR := h.head h1
    have hne2 : R.head a ≠ n := fun q => by have := h.pl _ hR.1; rw [q, h6] at this; cases this
    refine ⟨a, p, hk, hkn, hka, hlen, hl1, hl2, hh, hpid, ?_, ?_, ?_⟩
    · rw [hpid, hh, hhd, hio a hne, hio _ hne2]; exact h2
    · rw [hh, hhd]; exact (h.rng _ hR.1).1
    · unfold i64; omega
end Go.Proofs.YtmajlldfiiokoaaGreatDoor
