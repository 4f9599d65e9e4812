/- value.takes, strings.HasPrefix; value.Find and its closures, slices.IndexFunc, ContainsFunc. -/
import Derived.Test.YtpepbhmdfjpblaaGreatDoorValBits2
import Derived.Deep.LoopGhost
import Derived.Deep.QuietTactic
import Derived.BigQuiet
import Derived.RegionTactic
namespace Go.Proofs.YtpepbhmdfjpblaaGreatDoor
open Go.ChangeShapes Go.WideShapes Go.ChangeAt Go.RowKit
set_option linter.unusedVariables false

theorem prefix_any (s q : ByteArray) (w : World) (hs : s.size ≤ maxLen) (hq : q.size ≤ maxLen) :
    Calls Tryz.prog 79 #[.string s, .string q] w fun e w' => Says e (q.data.toList <+: s.data.toList) ∧ w' = w := by
  have h32 : Calls Tryz.prog 102 #[.string s, .string q] w fun e w' => Says e (q.data.toList <+: s.data.toList) ∧ w' = w := by
    unfold maxLen at hs hq
    by_cases h : q.size ≤ s.size
    · go_enter Tryz.func102, Tryz.ntmps102
      go_wp2
      go_ret
      refine ⟨⟨_, rfl, ?_⟩, rfl⟩
      rw [List.prefix_iff_eq_take]
      simp [ByteArray.toList_eq]
      exact ⟨Eq.symm, Eq.symm⟩
    · go_enter Tryz.func102, Tryz.ntmps102
      go_wp2
      go_ret
      refine ⟨Says.no fun hh => ?_, rfl⟩
      have := hh.length_le
      simp at this
      exact h this
  go_enter Tryz.func79, Tryz.ntmps79
  go_wp2_with fail
  refine h32.mono ?_
  rintro e w' ⟨⟨b, rfl, hb⟩, rfl⟩
  go_wp2
  go_ret
  exact ⟨⟨_, rfl, hb⟩, rfl⟩

theorem takes_1 {k q s : ByteArray} {lo hi n : Int} : Takes ⟨k, 1, lo, hi, q⟩ ⟨n, s⟩ ↔ (lo ≤ n ∧ n ≤ hi) := by simp [Takes]
theorem takes_2 {k q s : ByteArray} {lo hi n : Int} : Takes ⟨k, 2, lo, hi, q⟩ ⟨n, s⟩ ↔ s = q := by simp [Takes]
theorem takes_3 {k q s : ByteArray} {op lo hi n : Int} (h1 : op ≠ 1) (h2 : op ≠ 2) : Takes ⟨k, op, lo, hi, q⟩ ⟨n, s⟩ ↔ q.data.toList <+: s.data.toList := by simp [Takes, h1, h2]
theorem toList_inj {s t : ByteArray} : s.toList = t.toList ↔ s = t := by
  constructor
  · intro h
    have h' : s.data.toList = t.data.toList := by simpa [ByteArray.toList_eq] using h
    cases s; cases t; simp at h'; simp [h']
  · rintro rfl; rfl

set_option maxHeartbeats 1000000 in
theorem takes_any (k q s : ByteArray) (op lo hi n : Int) (w : World) (hs : s.size ≤ maxLen) (hq : q.size ≤ maxLen) :
    Calls Tryz.prog 55 #[.agg #[.string k, .int .i64 op, .int .i64 lo, .int .i64 hi, .string q], .agg #[.int .i64 n, .string s]] w
      fun e w' => Says e (Takes ⟨k, op, lo, hi, q⟩ ⟨n, s⟩) ∧ Below w.heap.size w w' := by
  by_cases k1 : op = 1
  · subst k1
    by_cases c1 : lo ≤ n
    all_goals
      go_enter Tryz.func55, Tryz.ntmps55
      go_wp2
      go_ret
      refine ⟨⟨_, rfl, ?_⟩, below2 _ _ _⟩
      rw [takes_1]; simp <;> omega
  · by_cases k2 : op = 2
    · subst k2
      go_enter Tryz.func55, Tryz.ntmps55
      go_wp2
      go_ret
      refine ⟨⟨_, rfl, ?_⟩, below2 _ _ _⟩
      rw [takes_2]; simp [toList_inj]
    · go_enter Tryz.func55, Tryz.ntmps55
      go_wp2_with (go_at_call 79; refine (prefix_any _ _ _ hs hq).mono ?_; rintro e w' ⟨⟨b, rfl, hb⟩, rfl⟩)
      go_ret
      exact ⟨⟨_, rfl, by rw [takes_3 k1 k2]; exact hb⟩, below2 _ _ _⟩

theorem enter_ff : ∀ args w, (callFunc 70 args).run Tryz.prog w = .ok (.enter 70 args) w := fun args w => by kernel_rfl
theorem enter_fl : ∀ args w, (callFunc 77 args).run Tryz.prog w = .ok (.enter 77 args) w := fun args w => by kernel_rfl

theorem find1v_any (nm x : ByteArray) (kd mn mx : Int) (b : Nat) (w : World) (hb : w.cell? ⟨b, 0, none⟩ = some (.string x)) (hlt : b < w.heap.size) :
    Calls Tryz.prog 70 (#[.agg #[.string nm, .int .i64 kd, .int .i64 mn, .int .i64 mx]] ++ #[.pointer (some ⟨b, 0, none⟩)]) w fun e w' => Says e (nm = x) ∧ Below w.heap.size w w' := by
  go_enter Tryz.func70, Tryz.ntmps70
  go_wp2
  go_ret
  exact ⟨⟨_, rfl, by simp [toList_inj]⟩, below1 _ _⟩

theorem filt1_any (nm q x : ByteArray) (op lo hi : Int) (b : Nat) (w : World) (hb : w.cell? ⟨b, 0, none⟩ = some (.string x)) (hlt : b < w.heap.size) :
    Calls Tryz.prog 77 (#[.agg #[.string nm, .int .i64 op, .int .i64 lo, .int .i64 hi, .string q]] ++ #[.pointer (some ⟨b, 0, none⟩)]) w fun e w' => Says e (nm = x) ∧ Below w.heap.size w w' := by
  go_enter Tryz.func77, Tryz.ntmps77
  go_wp2
  go_ret
  exact ⟨⟨_, rfl, by simp [toList_inj]⟩, below1 _ _⟩

theorem AtIn.row {w : World} {a : Option Addr} {n c : Nat} {az : List At} (h : AtIn w (.slice a n c) az) (k : Nat) (hk : k < az.length) :
    ∃ g, a = some ⟨g, 0, none⟩ ∧ g < w.heap.size ∧ az.length ≤ c ∧ w.cell? ⟨g, k * 4, none⟩ = some (.string (az.getD k at0).name) ∧ w.cell? ⟨g, k * 4 + 1, none⟩ = some (.int .i64 (az.getD k at0).kind) ∧ w.cell? ⟨g, k * 4 + 2, none⟩ = some (.int .i64 (az.getD k at0).mn) ∧ w.cell? ⟨g, k * 4 + 3, none⟩ = some (.int .i64 (az.getD k at0).mx) := by
  obtain ⟨a', c', e, hh⟩ := h.shape
  obtain ⟨g, ha, hg, hc, hj⟩ := hh (by omega)
  simp at e
  obtain ⟨rfl, rfl, rfl⟩ := e
  exact ⟨g, ha, hg, hc, hj k hk⟩
theorem VlIn.row {w : World} {a : Option Addr} {n c : Nat} {az : List Vl} (h : VlIn w (.slice a n c) az) (k : Nat) (hk : k < az.length) :
    ∃ g, a = some ⟨g, 0, none⟩ ∧ g < w.heap.size ∧ az.length ≤ c ∧ w.cell? ⟨g, k * 2, none⟩ = some (.int .i64 (az.getD k vl0).num) ∧ w.cell? ⟨g, k * 2 + 1, none⟩ = some (.string (az.getD k vl0).str) := by
  obtain ⟨a', c', e, hh⟩ := h.shape
  obtain ⟨g, ha, hg, hc, hj⟩ := hh (by omega)
  simp at e
  obtain ⟨rfl, rfl, rfl⟩ := e
  exact ⟨g, ha, hg, hc, hj k hk⟩
theorem PdIn.row {w : World} {a : Option Addr} {n c : Nat} {az : List Pd} (h : PdIn w (.slice a n c) az) (k : Nat) (hk : k < az.length) :
    ∃ g, a = some ⟨g, 0, none⟩ ∧ g < w.heap.size ∧ az.length ≤ c ∧ w.cell? ⟨g, k * 5, none⟩ = some (.string (az.getD k pd0).name) ∧ w.cell? ⟨g, k * 5 + 1, none⟩ = some (.int .i64 (az.getD k pd0).op) ∧ w.cell? ⟨g, k * 5 + 2, none⟩ = some (.int .i64 (az.getD k pd0).lo) ∧ w.cell? ⟨g, k * 5 + 3, none⟩ = some (.int .i64 (az.getD k pd0).hi) ∧ w.cell? ⟨g, k * 5 + 4, none⟩ = some (.string (az.getD k pd0).str) := by
  obtain ⟨a', c', e, hh⟩ := h.shape
  obtain ⟨g, ha, hg, hc, hj⟩ := hh (by omega)
  simp at e
  obtain ⟨rfl, rfl, rfl⟩ := e
  exact ⟨g, ha, hg, hc, hj k hk⟩

set_option maxHeartbeats 1000000 in
theorem indexA_any (f : Nat) (cb : Array Value) (v : Value) (az : List At) (p : Nat → Prop) (w : World) (eg : ∀ args w, (callFunc f args).run Tryz.prog w = .ok (.enter f args) w) (hl : az.length ≤ 1000) (h : AtIn w v az)
    (hf : ∀ (W : World) (i : Nat), i < az.length → Below w.heap.size w W → Calls Tryz.prog f (#[(az.getD i at0).agg] ++ cb) W fun e w' => Says e (p i) ∧ Below W.heap.size W w') :
    Calls Tryz.prog 69 #[v, .func (.func f) #[] cb] w fun e w' =>
      (∃ r : Int, e = .returned (.int .i64 r) ∧ ((∃ k : Nat, r = k ∧ k < az.length ∧ p k ∧ ∀ j, j < k → ¬ p j) ∨ (r = -1 ∧ ∀ j, j < az.length → ¬ p j))) ∧ Below w.heap.size w w' := by
  have HF : Hid _ := hf
  obtain ⟨a, c, rfl, hh⟩ := h.shape
  have HH : Hid _ := hh
  clear hf h hh
  go_enter Tryz.func69, Tryz.ntmps69
  go_wp2
  go_loopg [8] az.length (fun kx s8 wr => ∃ k : Nat, s8 = .int .i64 k ∧ k ≤ az.length ∧ kx = az.length - k ∧ Hid (Below w.heap.size w wr) ∧ Hid (∀ j, j < k → ¬ p j))
  case atStart => exact ⟨0, rfl, Nat.zero_le _, rfl, (Below.refl _ _ : Below w.heap.size w w), (fun j hj => absurd hj (Nat.not_lt_zero _) : ∀ j, j < 0 → ¬ p j)⟩
  case round =>
    obtain ⟨k, rfl, hk, rfl, HB, I⟩ := hrel
    by_cases hlt : k < az.length
    · obtain ⟨g, rfl, hg, hcap, hj⟩ := HH.out (by omega)
      obtain ⟨c0, c1, c2, c3⟩ := hj k hlt
      have e : ∀ o, wr.cell? ⟨g, o, none⟩ = w.cell? ⟨g, o, none⟩ := fun o => HB.out.cell (p := ⟨g, o, none⟩) hg
      rw [← e] at c0 c1 c2 c3
      have hc := HF.out wr k hlt HB.out
      unfold At.agg at hc
      generalize az.getD k at0 = x at c0 c1 c2 c3 hc
      clear e hj
      go_wp2_with fail
      refine hc.mono ?_
      rintro e w' ⟨⟨b, rfl, hb⟩, hbw⟩
      have HB2 : Hid (Below w.heap.size w w') := HB.out.trans (hbw.mono HB.out.size)
      clear hc
      cases b
      · have hnp : ¬ p k := fun hp => by have := hb.mpr hp; simp at this
        have I2 : Hid (∀ j, j < k + 1 → ¬ p j) := fun j hjk => by
          by_cases e : j = k
          · subst e; exact hnp
          · exact I.out j (by omega)
        clear hb hnp hbw c0 c1 c2 c3
        go_wp2
        go_roundg (az.length - (k + 1))
        case measure => omega
        case rel => exact ⟨k + 1, by go_num, by omega, rfl, HB2, I2⟩
      · have hp : Hid (p k) := hb.mp rfl
        clear hb hbw c0 c1 c2 c3
        go_wp2
        go_ret
        exact ⟨⟨_, rfl, .inl ⟨k, rfl, hlt, hp.out, I.out⟩⟩, HB2.out⟩
    · go_wp2
      go_ret
      exact ⟨⟨_, rfl, .inr ⟨rfl, fun j hj => I.out j (by omega)⟩⟩, HB.out⟩
set_option maxHeartbeats 1000000 in
theorem indexP_any (f : Nat) (cb : Array Value) (v : Value) (az : List Pd) (p : Nat → Prop) (w : World) (eg : ∀ args w, (callFunc f args).run Tryz.prog w = .ok (.enter f args) w) (hl : az.length ≤ 1000) (h : PdIn w v az)
    (hf : ∀ (W : World) (i : Nat), i < az.length → Below w.heap.size w W → Calls Tryz.prog f (#[(az.getD i pd0).agg] ++ cb) W fun e w' => Says e (p i) ∧ Below W.heap.size W w') :
    Calls Tryz.prog 101 #[v, .func (.func f) #[] cb] w fun e w' =>
      (∃ r : Int, e = .returned (.int .i64 r) ∧ ((∃ k : Nat, r = k ∧ k < az.length ∧ p k ∧ ∀ j, j < k → ¬ p j) ∨ (r = -1 ∧ ∀ j, j < az.length → ¬ p j))) ∧ Below w.heap.size w w' := by
  have HF : Hid _ := hf
  obtain ⟨a, c, rfl, hh⟩ := h.shape
  have HH : Hid _ := hh
  clear hf h hh
  go_enter Tryz.func101, Tryz.ntmps101
  go_wp2
  go_loopg [8] az.length (fun kx s8 wr => ∃ k : Nat, s8 = .int .i64 k ∧ k ≤ az.length ∧ kx = az.length - k ∧ Hid (Below w.heap.size w wr) ∧ Hid (∀ j, j < k → ¬ p j))
  case atStart => exact ⟨0, rfl, Nat.zero_le _, rfl, (Below.refl _ _ : Below w.heap.size w w), (fun j hj => absurd hj (Nat.not_lt_zero _) : ∀ j, j < 0 → ¬ p j)⟩
  case round =>
    obtain ⟨k, rfl, hk, rfl, HB, I⟩ := hrel
    by_cases hlt : k < az.length
    · obtain ⟨g, rfl, hg, hcap, hj⟩ := HH.out (by omega)
      obtain ⟨c0, c1, c2, c3, c4⟩ := hj k hlt
      have e : ∀ o, wr.cell? ⟨g, o, none⟩ = w.cell? ⟨g, o, none⟩ := fun o => HB.out.cell (p := ⟨g, o, none⟩) hg
      rw [← e] at c0 c1 c2 c3 c4
      have hc := HF.out wr k hlt HB.out
      unfold Pd.agg at hc
      generalize az.getD k pd0 = x at c0 c1 c2 c3 c4 hc
      clear e hj
      go_wp2_with fail
      refine hc.mono ?_
      rintro e w' ⟨⟨b, rfl, hb⟩, hbw⟩
      have HB2 : Hid (Below w.heap.size w w') := HB.out.trans (hbw.mono HB.out.size)
      clear hc
      cases b
      · have hnp : ¬ p k := fun hp => by have := hb.mpr hp; simp at this
        have I2 : Hid (∀ j, j < k + 1 → ¬ p j) := fun j hjk => by
          by_cases e : j = k
          · subst e; exact hnp
          · exact I.out j (by omega)
        clear hb hnp hbw c0 c1 c2 c3 c4
        go_wp2
        go_roundg (az.length - (k + 1))
        case measure => omega
        case rel => exact ⟨k + 1, by go_num, by omega, rfl, HB2, I2⟩
      · have hp : Hid (p k) := hb.mp rfl
        clear hb hbw c0 c1 c2 c3 c4
        go_wp2
        go_ret
        exact ⟨⟨_, rfl, .inl ⟨k, rfl, hlt, hp.out, I.out⟩⟩, HB2.out⟩
    · go_wp2
      go_ret
      exact ⟨⟨_, rfl, .inr ⟨rfl, fun j hj => I.out j (by omega)⟩⟩, HB.out⟩

theorem find_any (v : Value) (az : List At) (n : ByteArray) (w : World) (h : AtIn w v az) (hl : az.length ≤ 1000) :
    Calls Tryz.prog 48 #[v, .string n] w fun e w' => (∃ r : Int, e = .returned (.int .i64 r) ∧ Found az n r) ∧ Below w.heap.size w w' := by
  have hmf : ∀ (fn : Fn) (first cap : Array Value) (w : World), (Instr.makeFunc fn first cap).run Tryz.prog w = .ok (.func fn first cap) w := fun _ _ _ _ => rfl
  have b1 := below1 w (.cells #[.string n] 9)
  have hc := indexA_any 70 #[.pointer (some ⟨w.heap.size, 0, none⟩)] v az (fun i => (az.getD i at0).name = n) (w.alloc (.cells #[.string n] 9)) enter_ff hl (h.below b1)
    (fun W i hi hW => find1v_any _ n _ _ _ w.heap.size W ((hW.cell (p := ⟨w.heap.size, 0, none⟩) (by simp)).trans (World.cell?_alloc_new ..)) (by have := hW.size; simp at this; omega))
  go_enter Tryz.func48, Tryz.ntmps48
  go_wp2_with fail
  refine hc.mono ?_
  rintro e w' ⟨⟨r, rfl, hr⟩, hb⟩
  have HR : Hid (Found az n r) := by
    rcases hr with ⟨k, h1, h2, h3, h4⟩ | ⟨h1, h2⟩
    · exact .inl ⟨k, h1, h2, h3, h4⟩
    · exact .inr ⟨h1, h2⟩
  have HB : Hid (Below w.heap.size w w') := b1.trans (hb.mono b1.size)
  clear hr hc hb b1
  go_wp2
  go_ret
  exact ⟨⟨r, rfl, HR.out⟩, HB.out⟩

/-- Is there one of this name among the predicates? -/
theorem contains_any (v : Value) (ps : List Pd) (b : Nat) (x : ByteArray) (w : World) (h : PdIn w v ps) (hl : ps.length ≤ 1000) (hb : w.cell? ⟨b, 0, none⟩ = some (.string x)) (hlt : b < w.heap.size) :
    Calls Tryz.prog 76 #[v, .func (.func 77) #[] #[.pointer (some ⟨b, 0, none⟩)]] w
      fun e w' => Says e (∃ j, j < ps.length ∧ (ps.getD j pd0).name = x) ∧ Below w.heap.size w w' := by
  have hc := indexP_any 77 #[.pointer (some ⟨b, 0, none⟩)] v ps (fun i => (ps.getD i pd0).name = x) w enter_fl hl h
    (fun W i hi hW => filt1_any _ _ x _ _ _ b W ((hW.cell (p := ⟨b, 0, none⟩) hlt).trans hb) (by have := hW.size; omega))
  go_enter Tryz.func76, Tryz.ntmps76
  go_wp2_with fail
  refine hc.mono ?_
  rintro e w' ⟨⟨r, rfl, hr⟩, hb⟩
  have HR : Hid (0 ≤ r ↔ ∃ j, j < ps.length ∧ (ps.getD j pd0).name = x) := by
    show 0 ≤ r ↔ ∃ j, j < ps.length ∧ (ps.getD j pd0).name = x
    rcases hr with ⟨k, h1, h2, h3, h4⟩ | ⟨h1, h2⟩
    · exact ⟨fun _ => ⟨k, h2, h3⟩, fun _ => by omega⟩
    · exact ⟨fun h => by omega, fun ⟨j, h3, h4⟩ => absurd h4 (h2 j h3)⟩
  have HB : Hid (Below w.heap.size w w') := hb
  clear hr hc hb
  go_wp2
  go_ret
  exact ⟨Says.dec HR.out, HB.out⟩
end Go.Proofs.YtpepbhmdfjpblaaGreatDoor
