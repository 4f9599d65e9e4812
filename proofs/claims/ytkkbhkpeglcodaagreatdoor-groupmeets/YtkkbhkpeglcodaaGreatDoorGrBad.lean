/- group.check, Choose, Of, Reach where they answer an error: which code it has. -/
import Derived.Test.YtkkbhkpeglcodaaGreatDoorGrReach
import Derived.Test.YtkkbhkpeglcodaaGreatDoorGrRefC
namespace Go.Proofs.YtkkbhkpeglcodaaGreatDoor
open Go.ChangeShapes Go.WideShapes Go.ChangeAt Go.RowKit
set_option linter.unusedVariables false

/-- An error of this code: the code itself, or a fault that bears it. -/
def CodeIs (w : World) (er : Value) (c : Int) : Prop :=
  er = .iface 40 (.int .i64 c) ∨ ∃ (N : Nat) (wh : ByteArray) (at' : Int), er = .iface 164 (.pointer (some ⟨N, 0, none⟩)) ∧ w.heap[N]? = some (.cells #[.string wh, .int .i64 at', .iface 40 (.int .i64 c)] 166 (0, 0))
theorem CodeIs.below {w w' : World} {er : Value} {c : Int} (h : CodeIs w er c) (hb : Below w.heap.size w w') : CodeIs w' er c := by
  rcases h with h | ⟨N, wh, at', h1, h2⟩
  · exact .inl h
  · exact .inr ⟨N, wh, at', h1, (hb.block N (lt_of_block h2)).trans h2⟩
theorem CodeIs.shape {w : World} {er : Value} {c : Int} (h : CodeIs w er c) : ∃ t u, er = .iface t u := by
  rcases h with h | ⟨N, wh, at', h1, _⟩
  · exact ⟨_, _, h⟩
  · exact ⟨_, _, h1⟩

/-- What check answers. -/
def CkAns (e : Ending) (w' : World) (az : List At) (L : Int) : Prop :=
  (e = .returned .nilIface ∧ Chk az L 0) ∨ ∃ er c, e = .returned er ∧ ¬ c = 0 ∧ Chk az L c ∧ CodeIs w' er c
theorem CkAns.bad {e : Ending} {w' : World} {az : List At} {L : Int} (er : Value) (c : Int) (h : e = .returned er) (hc : ¬ c = 0) (hk : Chk az L c) (hi : CodeIs w' er c) : CkAns e w' az L := Or.inr ⟨er, c, h, hc, hk, hi⟩
set_option maxHeartbeats 1000000 in
theorem check_code (v : Value) (az : List At) (L : Int) (w : World) (h : AtIn w v az) (hl : az.length ≤ 1000) (hz : ∀ i, i < az.length → (az.getD i at0).name.size ≤ maxLen) :
    Calls Tryz.prog 37 #[v, .int .i64 L] w fun e w' => CkAns e w' az L ∧ Below w.heap.size w w' := by
  by_cases h0 : L < 0
  · go_enter Tryz.func37, Tryz.ntmps37
    go_wp2
    go_ret
    exact ⟨CkAns.bad (.iface 40 (.int .i64 1)) 1 rfl (by omega) (Or.inl ⟨Or.inl h0, rfl⟩) (Or.inl rfl), Below.refl _ _⟩
  · by_cases h1 : 8 < L
    · go_enter Tryz.func37, Tryz.ntmps37
      go_wp2
      go_ret
      exact ⟨CkAns.bad (.iface 40 (.int .i64 1)) 1 rfl (by omega) (Or.inl ⟨Or.inr h1, rfl⟩) (Or.inl rfl), Below.refl _ _⟩
    · have HC : Hid _ := check_any v az w h hl hz
      clear h hz
      go_enter Tryz.func37, Tryz.ntmps37
      go_wp2_with fail
      refine Calls.mono HC.out ?_
      rintro e w1 ⟨hE, b1⟩
      have HB : Hid (Below w.heap.size w w1) := b1
      rcases hE with ⟨rfl, hC⟩ | ⟨b9, n9, rfl, hC, hbl⟩
      · have HK : Hid (SchemaOk az) := hC
        clear hC b1
        go_wp2
        go_ret
        exact ⟨Or.inl ⟨rfl, Or.inr ⟨by omega, by omega, Or.inl ⟨HK.out, rfl⟩⟩⟩, HB.out⟩
      · have HK : Hid (¬ SchemaOk az) := hC
        have HBL : Hid (w1.heap[b9]? = _) := hbl
        clear hC b1 hbl
        go_wp2
        go_ret
        exact ⟨CkAns.bad _ 3 rfl (by omega) (Or.inr ⟨by omega, by omega, Or.inr ⟨HK.out, rfl⟩⟩) (Or.inr ⟨_, _, _, rfl, HBL.out⟩), HB.out⟩

/-- The code of a choice: the first look's, then the filter's. -/
def ChkF (az : List At) (f : List Pd) (L c : Int) : Prop :=
  (¬ c = 0 ∧ Chk az L c) ∨ (Chk az L 0 ∧ ((FilterOk az f ∧ c = 0) ∨ (¬ FilterOk az f ∧ c = 3)))
theorem chk_good {az : List At} {L : Int} (h : Chk az L 0) : 0 ≤ L ∧ L ≤ 8 ∧ SchemaOk az := by
  rcases h with ⟨_, h⟩ | ⟨h0, h1, ⟨h2, _⟩ | ⟨_, h2⟩⟩
  · omega
  · exact ⟨h0, h1, h2⟩
  · omega

set_option maxRecDepth 100000 in
set_option maxHeartbeats 2000000 in
theorem choose_bad (v u : Value) (az : List At) (f : List Pd) (L : Int) (w : World) (h : AtIn w v az) (hu : PdIn w u f) (hl : az.length ≤ 1000) (hl2 : f.length ≤ 1000) (hz : ∀ i, i < az.length → (az.getD i at0).name.size ≤ maxLen) (hz2 : ∀ i, i < f.length → (f.getD i pd0).str.size ≤ 1000) (hno : ¬ GoodF az f L) :
    Calls Tryz.prog 17 #[v, u, .int .i64 L] w fun e w' => (∃ er c, e = .returned (.tuple #[.int .i64 (-1), er]) ∧ ¬ c = 0 ∧ ChkF az f L c ∧ CodeIs w' er c) ∧ Below w.heap.size w w' := by
  have HA : Hid (AtIn w v az ∧ PdIn w u f) := ⟨h, hu⟩
  have HZ2 : Hid (∀ i, i < f.length → (f.getD i pd0).str.size ≤ 1000) := hz2
  have HCK : Hid _ := check_code v az L w h hl hz
  have HNO : Hid (¬ GoodF az f L) := hno
  clear h hu hz hz2 hno
  go_enter Tryz.func17, Tryz.ntmps17
  go_wp2_with fail
  refine Calls.mono HCK.out ?_
  rintro e w1 ⟨hN, b1⟩
  have HB1 : Hid (Below w.heap.size w w1) := b1
  clear b1 HCK
  rcases hN with ⟨rfl, hC⟩ | ⟨er, c, rfl, hc, hC, hI⟩
  · have HC : Hid (Chk az L 0) := hC
    clear hC
    go_wp2_with fail
    refine (filter_any _ _ az f _ (HA.out.1.below HB1.out) (HA.out.2.below HB1.out) hl hl2 (fun i hi => Nat.le_trans (HZ2.out i hi) (by unfold maxLen; omega))).mono ?_
    rintro e w2 ⟨hE, b2⟩
    have HB2 : Hid (Below w.heap.size w w2) := HB1.out.trans (b2.mono HB1.out.size)
    clear b2 HB1
    rcases hE with ⟨rfl, hF⟩ | ⟨b9, n9, rfl, hF, hbl⟩
    · have hg := chk_good HC.out
      exact absurd ⟨hg.1, hg.2.1, hg.2.2, hF⟩ HNO.out
    · have HBL : Hid (w2.heap[b9]? = _) := hbl
      have HF : Hid (¬ FilterOk az f) := hF
      clear hbl hF
      go_wp2
      go_ret2
      exact ⟨⟨_, 3, rfl, by omega, .inr ⟨HC.out, .inr ⟨HF.out, rfl⟩⟩, .inr ⟨_, _, _, rfl, HBL.out⟩⟩, HB2.out⟩
  · have HI : Hid (CodeIs w1 er c ∧ Chk az L c) := ⟨hI, hC⟩
    obtain ⟨t, x, rfl⟩ := hI.shape
    clear hI hC
    go_wp2
    go_ret2
    exact ⟨⟨_, c, rfl, hc, .inl ⟨hc, HI.out.2⟩, HI.out.1⟩, HB1.out⟩

set_option maxRecDepth 100000 in
set_option maxHeartbeats 2000000 in
theorem of_bad (v u : Value) (az : List At) (f : List Pd) (L : Int) (w : World) (h : AtIn w v az) (hu : PdIn w u f) (hl : az.length ≤ 1000) (hl2 : f.length ≤ 1000) (hz : ∀ i, i < az.length → (az.getD i at0).name.size ≤ maxLen) (hz2 : ∀ i, i < f.length → (f.getD i pd0).str.size ≤ 1000) (hno : ¬ GoodF az f L) :
    Calls Tryz.prog 19 #[v, u, .int .i64 L] w fun e w' => (∃ er c, e = .returned (.tuple #[.slice none 0 0, er]) ∧ ¬ c = 0 ∧ ChkF az f L c ∧ CodeIs w' er c) ∧ Below w.heap.size w w' := by
  have HC : Hid _ := choose_bad v u az f L w h hu hl hl2 hz hz2 hno
  clear h hu hz hz2 hno
  go_enter Tryz.func19, Tryz.ntmps19
  go_wp2_with fail
  refine Calls.mono HC.out ?_
  rintro e w1 ⟨⟨er, c, rfl, hc, hC, hI⟩, b1⟩
  have HI : Hid (CodeIs w1 er c ∧ ChkF az f L c ∧ Below w.heap.size w w1) := ⟨hI, hC, b1⟩
  obtain ⟨t, x, rfl⟩ := hI.shape
  clear hI hC b1 HC
  go_wp2
  go_ret2
  exact ⟨⟨_, c, rfl, hc, HI.out.2.1, HI.out.1⟩, HI.out.2.2⟩

/-- The code of an event's way: the first look's, then the event's. -/
def ChkR (az : List At) (vs : List Vl) (m : Nat) (L c : Int) : Prop :=
  (¬ c = 0 ∧ Chk az L c) ∨ (Chk az L 0 ∧ ((EventOk az vs m ∧ c = 0) ∨ (¬ EventOk az vs m ∧ c = 3)))
set_option maxRecDepth 100000 in
set_option maxHeartbeats 2000000 in
theorem reach_bad (v u : Value) (az : List At) (vs : List Vl) (pay : ByteArray) (L : Int) (w : World) (h : AtIn w v az) (hu : VlIn w u vs) (hl : az.length ≤ 1000) (hl2 : vs.length ≤ 1000) (hp : pay.size ≤ maxLen) (hz : ∀ i, i < az.length → (az.getD i at0).name.size ≤ 1000) (hz2 : ∀ i, i < vs.length → (vs.getD i vl0).str.size ≤ 1000) (hno : ¬ GoodR az vs pay.size L) :
    Calls Tryz.prog 21 #[v, .agg #[u, .string pay], .int .i64 L] w fun e w' => (∃ er c, e = .returned (.tuple #[.slice none 0 0, er]) ∧ ¬ c = 0 ∧ ChkR az vs pay.size L c ∧ CodeIs w' er c) ∧ Below w.heap.size w w' := by
  obtain ⟨W0, hW0⟩ : ∃ W0, W0 = w.alloc (.cells #[u, .string pay] 48) := ⟨_, rfl⟩
  have hbw : Below w.heap.size w W0 := by rw [hW0]; exact dbel1 _ _
  have f0 : W0.cell? ⟨w.heap.size, 0, none⟩ = some u := by rw [hW0]; simp
  have f1 : W0.cell? ⟨w.heap.size, 1, none⟩ = some (.string pay) := by rw [hW0]; simp
  have HZ2 : Hid (∀ i, i < vs.length → (vs.getD i vl0).str.size ≤ 1000) := hz2
  have HA : Hid (AtIn W0 v az ∧ VlIn W0 u vs) := ⟨h.below hbw, hu.below hbw⟩
  have HB0 : Hid (Below w.heap.size w W0) := hbw
  have HF0 : Hid (W0.cell? ⟨w.heap.size, 0, none⟩ = some u ∧ W0.cell? ⟨w.heap.size, 1, none⟩ = some (.string pay)) := ⟨f0, f1⟩
  have HCK : Hid _ := check_code v az L W0 HA.out.1 hl (fun i hi => Nat.le_trans (hz i hi) (by unfold maxLen; omega))
  have HNO : Hid (¬ GoodR az vs pay.size L) := hno
  obtain ⟨a, cp, rfl, _⟩ := h.shape
  obtain ⟨au, cu, rfl, _⟩ := hu.shape
  clear h hu hz hz2 hbw f0 f1 hno
  go_enter Tryz.func21, Tryz.ntmps21
  go_wp2_with fail
  rw [← hW0]
  clear hW0
  refine Calls.mono HCK.out ?_
  rintro e w1 ⟨hN, b1⟩
  have HB1 : Hid (Below W0.heap.size W0 w1 ∧ Below w.heap.size w w1) := ⟨b1, HB0.out.trans (b1.mono HB0.out.size)⟩
  clear b1 HCK
  rcases hN with ⟨rfl, hC⟩ | ⟨er, c, rfl, hc, hC, hI⟩
  · have HC : Hid (Chk az L 0) := hC
    have k0 := cell_grown HF0.out.1 HB1.out.1
    have k1 := cell_grown HF0.out.2 HB1.out.1
    clear hC
    go_wp2_with fail
    refine (event_any _ _ az vs pay _ (HA.out.1.below HB1.out.1) (HA.out.2.below HB1.out.1) hl hl2 hp (fun i hi => Nat.le_trans (HZ2.out i hi) (by unfold maxLen; omega))).mono ?_
    rintro e w2 ⟨hE, b2⟩
    have HB2 : Hid (Below w.heap.size w w2) := HB1.out.2.trans (b2.mono HB1.out.2.size)
    clear b2 HB1
    rcases hE with ⟨rfl, hF⟩ | ⟨b9, n9, rfl, hF, hbl⟩
    · have hg := chk_good HC.out
      exact absurd ⟨hg.1, hg.2.1, hg.2.2, hF⟩ HNO.out
    · have HBL : Hid (w2.heap[b9]? = _) := hbl
      have HF : Hid (¬ EventOk az vs pay.size) := hF
      clear hbl hF
      go_wp2
      go_ret2
      exact ⟨⟨_, 3, rfl, by omega, .inr ⟨HC.out, .inr ⟨HF.out, rfl⟩⟩, .inr ⟨_, _, _, rfl, HBL.out⟩⟩, HB2.out⟩
  · have HI : Hid (CodeIs w1 er c ∧ Chk az L c) := ⟨hI, hC⟩
    obtain ⟨t, x, rfl⟩ := hI.shape
    clear hI hC
    go_wp2
    go_ret2
    exact ⟨⟨_, c, rfl, hc, .inl ⟨hc, HI.out.2⟩, HI.out.1⟩, HB1.out.2⟩
end Go.Proofs.YtkkbhkpeglcodaaGreatDoor
