/- peer.lives, Head, Nearer, Rectify, of a chord ring. -/
import Derived.Test.YtkkkldglceiiiaaChRing
import Derived.Test.YtkkkldglceiiiaaRing
import Derived.Deep.LoopGhost
namespace Go.Proofs.Ytkkkldglceiiiaa
open Go.ChangeShapes Go.WideShapes Go.ChangeAt Go.RowKit Go.Deep
set_option linter.unusedVariables false

/-- The first one that lives; -1: none. -/
def headF (L : Int → Bool) : List Int → Int
  | [] => -1
  | n :: l => if L n then n else headF L l
/-- Who lives, as layer 9 asks it. -/
def Rg.lv (R : Rg) (n : Int) : Bool := n != -1 && R.lives n
def Rg.near (R : Rg) (q frm to : Int) : Bool := R.lv q && (to != -1 && withinB (R.idOf q) frm (R.idOf to))
def Rg.rect (R : Rg) (id pred n : Int) : Int := if !R.lv pred || (n != -1 && withinB (R.idOf n) (R.idOf pred) id) then n else pred

theorem headF_drop (L : Int → Bool) (l : List Int) (k : Nat) (hk : k < l.length) : headF L (l.drop k) = if L (l.getD k 0) then l.getD k 0 else headF L (l.drop (k + 1)) := by
  rw [List.drop_eq_getElem_cons hk]
  have e : l.getD k 0 = l[k] := by simp [List.getD, hk]
  rw [e]; rfl

theorem mr_lives (a : Addr) (w : World) : (method 289 23 (.pointer (some a)) "Lives").run Try.prog w = .ok (9, .pointer (some a)) w := by kernel_rfl
theorem mr_id (a : Addr) (w : World) : (method 289 23 (.pointer (some a)) "Id").run Try.prog w = .ok (34, .pointer (some a)) w := by kernel_rfl
/-- The ring as one that is asked. -/
def kvR (r : Nat) : Value := .iface 23 (.pointer (some ⟨r, 0, none⟩))

set_option maxHeartbeats 1000000 in
theorem plives_r (r gp gk : Nat) (R : Rg) (n : Int) (w : World) (h : RingAt w r gp gk R) :
    Calls Try.prog 115 #[.int .i64 n, .iface 23 (.pointer (some ⟨r, 0, none⟩))] w fun e w' => e = .returned (.bool (R.lv n)) ∧ Below w.heap.size w w' := by
  have m1 := fun a w => mr_lives a w
  by_cases q : n = -1
  · subst q
    go_enter Try.func115, Try.ntmps115
    go_wp2
    go_ret
    exact ⟨rfl, Below.refl _ _⟩
  · have H : Hid (RingAt w r gp gk R) := h
    clear h
    go_enter Try.func115, Try.ntmps115
    go_wp2_with (go_at_call 9; refine (lives_r _ _ _ _ _ _ H.out).mono ?_; rintro e w' ⟨rfl, hb⟩)
    go_ret
    exact ⟨ret_b (by simp [Rg.lv]), hb⟩

/-- Head, of whomever is asked who lives. -/
theorem head_gen (kv : Value) (L : Int → Bool) (id pred : Value) (a : Option Addr) (len cap : Nat) (l : List Int) (w : World) (hl : InIn w a len l)
    (hK : ∀ w1, Below w.heap.size w w1 → ∀ n, Calls Try.prog 115 #[.int .i64 n, kv] w1 fun e w' => e = .returned (.bool (L n)) ∧ Below w1.heap.size w1 w') :
    Calls Try.prog 111 #[.agg #[id, pred, .slice a len cap], kv] w fun e w' => e = .returned (.int .i64 (headF L l)) ∧ Below w.heap.size w w' := by
  have HL : Hid (InIn w a len l) := hl
  have HN : Hid (l.length = len) := hl.1
  have HK : Hid (∀ w1, Below w.heap.size w w1 → ∀ n, Calls Try.prog 115 #[.int .i64 n, kv] w1 fun e w' => e = .returned (.bool (L n)) ∧ Below w1.heap.size w1 w') := hK
  have hm := hl.2.1
  clear hl hK
  go_enter Try.func111, Try.ntmps111
  go_wp2
  go_loopg [10] len (fun kx s wr => ∃ k : Nat, s = .int .i64 k ∧ k ≤ len ∧ kx = len - k ∧ Hid (Below w.heap.size w wr) ∧ Hid (headF L (l.drop k) = headF L l))
  case atStart => exact ⟨0, rfl, Nat.zero_le _, rfl, below_one _ _, (rfl : headF L (l.drop 0) = headF L l)⟩
  case round =>
    obtain ⟨k, rfl, hk, rfl, HB, I⟩ := hrel
    by_cases hlt : k < len
    · obtain ⟨b, o, rfl, hb, hx, hc⟩ := (HL.out.below (Nat.le_refl _) HB.out).one (v := Value.int .i64) (fun _ => rfl) (i := k) hlt
      have E : Hid (headF L (l.drop k) = if L (l.getD k 0) then l.getD k 0 else headF L (l.drop (k + 1))) := headF_drop L l k (by rw [HN.out]; exact hlt)
      generalize l.getD k 0 = x at hx hc E
      clear hx
      cases hq : L x
      all_goals
        have HQ : Hid _ := hq
        clear hq
        go_wp2_with (go_at_call 115; refine (HK.out _ HB.out _).mono ?_; rintro e w' ⟨rfl, hb'⟩; rw [HQ.out])
      · go_roundg (len - (k + 1))
        case measure => omega
        case rel => exact ⟨k + 1, by go_num, by omega, rfl, HB.out.trans (hb'.mono HB.out.size), by rw [← I.out, E.out, HQ.out]; rfl⟩
      · go_ret
        exact ⟨ret_i (by rw [← I.out, E.out, HQ.out]; rfl), HB.out.trans (hb'.mono HB.out.size)⟩
    · go_wp2
      go_ret
      exact ⟨ret_i (by rw [← I.out, List.drop_of_length_le (by rw [HN.out]; omega)]; rfl), HB.out⟩

theorem head_r (r gp gk : Nat) (R : Rg) (id pred : Value) (a : Option Addr) (len cap : Nat) (l : List Int) (w : World) (h : RingAt w r gp gk R) (hl : InIn w a len l) :
    Calls Try.prog 111 #[.agg #[id, pred, .slice a len cap], .iface 23 (.pointer (some ⟨r, 0, none⟩))] w fun e w' => e = .returned (.int .i64 (headF R.lv l)) ∧ Below w.heap.size w w' :=
  head_gen _ _ _ _ _ _ _ _ _ hl (fun w1 hb n => plives_r _ _ _ _ _ _ (h.below hb))
theorem rectF_no {R : Rg} {id pred n : Int} (h : R.lv pred = true) (h2 : (n != -1 && withinB (R.idOf n) (R.idOf pred) id) = false) : R.rect id pred n = pred := by
  unfold Rg.rect; rw [h, h2]; rfl
theorem rectF_dead {R : Rg} {id pred n : Int} (h : R.lv pred = false) : R.rect id pred n = n := by
  unfold Rg.rect; rw [h]; rfl
theorem rectF_in {R : Rg} {id pred n : Int} (h : (n != -1 && withinB (R.idOf n) (R.idOf pred) id) = true) : R.rect id pred n = n := by
  unfold Rg.rect; rw [h]; simp

end Go.Proofs.Ytkkkldglceiiiaa
