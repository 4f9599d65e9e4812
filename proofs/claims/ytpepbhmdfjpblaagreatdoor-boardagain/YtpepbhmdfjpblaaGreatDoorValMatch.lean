/- value.Schema.Match: does a filter take an event? -/
import Derived.Test.YtpepbhmdfjpblaaGreatDoorValFilter
namespace Go.Proofs.YtpepbhmdfjpblaaGreatDoor
open Go.ChangeShapes Go.WideShapes Go.ChangeAt Go.RowKit
set_option linter.unusedVariables false

set_option maxHeartbeats 4000000 in
theorem match_any (v u x : Value) (az : List At) (ps : List Pd) (vs : List Vl) (pay : ByteArray) (w : World) (h : AtIn w v az) (hu : PdIn w u ps) (hx : VlIn w x vs) (hl : az.length ≤ 1000) (hl2 : ps.length ≤ 1000) (hl3 : vs.length ≤ 1000) (hp : pay.size ≤ maxLen)
    (hz : ∀ i, i < ps.length → (ps.getD i pd0).str.size ≤ maxLen) (hz2 : ∀ i, i < vs.length → (vs.getD i vl0).str.size ≤ maxLen) :
    Calls Tryz.prog 34 #[v, u, .agg #[x, .string pay]] w fun e w' => Says e (MatchOk az ps vs pay.size) ∧ Below w.heap.size w w' := by
  obtain ⟨w1, hw1⟩ : ∃ w1, w1 = w.alloc (.cells #[x, .string pay] 44) := ⟨_, rfl⟩
  have b1 : Below w.heap.size w w1 := by rw [hw1]; exact below1 _ _
  have s1 : w1.heap.size = w.heap.size + 1 := by rw [hw1]; simp
  have e0 : w1.cell? ⟨w.heap.size, 0, none⟩ = some x := by rw [hw1]; exact World.cell?_alloc_new ..
  have e1 : w1.cell? ⟨w.heap.size, 1, none⟩ = some (.string pay) := by rw [hw1]; simp
  have H1 : Hid (AtIn w1 v az ∧ PdIn w1 u ps ∧ VlIn w1 x vs) := ⟨h.below b1, hu.below b1, hx.below b1⟩
  have HF1 := filter_any v u az ps w1 H1.out.1 H1.out.2.1 hl hl2 hz
  obtain ⟨a, c, rfl, hh⟩ := h.shape
  obtain ⟨a', c', rfl, hh'⟩ := hu.shape
  obtain ⟨a'', c'', rfl, hh''⟩ := hx.shape
  have HZ : Hid ((∀ i, i < ps.length → (ps.getD i pd0).str.size ≤ maxLen) ∧ (∀ i, i < vs.length → (vs.getD i vl0).str.size ≤ maxLen) ∧ pay.size ≤ maxLen) := ⟨hz, hz2, hp⟩
  have B1 : Hid (Below w.heap.size w w1 ∧ w1.heap.size = w.heap.size + 1) := ⟨b1, s1⟩
  have hsz : w.heap.size < w1.heap.size := by omega
  clear hz hz2 hp h hu hx hh hh' hh'' b1 s1
  go_enter Tryz.func34, Tryz.ntmps34
  go_wp2_with fail
  rw [← hw1]
  clear hw1
  refine HF1.mono ?_
  rintro e w2 ⟨hE, b2⟩
  clear HF1
  have B2 : Hid (Below w1.heap.size w1 w2) := b2
  have f0 := cell_grown e0 b2
  have f1 := cell_grown e1 b2
  have hsz2 : w.heap.size < w2.heap.size := by have := b2.size; omega
  clear b2
  rcases hE with ⟨rfl, hF⟩ | ⟨bb, nn, rfl, hF, _⟩
  · have HFil : Hid (FilterOk az ps) := hF
    clear hF
    go_wp2_with fail
    refine (event_any _ _ az vs pay _ (H1.out.1.below B2.out) (H1.out.2.2.below B2.out) hl hl3 HZ.out.2.2 HZ.out.2.1).mono ?_
    rintro e w3 ⟨hE, b3⟩
    have B3 : Hid (Below w1.heap.size w1 w3) := B2.out.trans (b3.mono B2.out.size)
    have g0 := cell_grown f0 b3
    have hsz3 : w.heap.size < w3.heap.size := by have := b3.size; omega
    clear b3 f0 f1
    rcases hE with ⟨rfl, hF⟩ | ⟨bb, nn, rfl, hF, _⟩
    · have HEv : Hid (EventOk az vs pay.size) := hF
      have HLe : Hid (vs.length = az.length) := hF.1
      clear hF
      go_wp2
      go_loopg [21] ps.length (fun kx s wr => ∃ k : Nat, s = .int .i64 k ∧ k ≤ ps.length ∧ kx = ps.length - k ∧ Hid (Below w3.heap.size w3 wr) ∧ Hid (∀ j, j < k → ∃ l, FindAt az (ps.getD j pd0).name l ∧ Takes (ps.getD j pd0) (vs.getD l vl0)))
      case atStart => exact ⟨0, rfl, Nat.zero_le _, rfl, (Below.refl _ _ : Below w3.heap.size w3 w3), (fun j hj => absurd hj (Nat.not_lt_zero _) : ∀ j, j < 0 → ∃ l, FindAt az (ps.getD j pd0).name l ∧ Takes (ps.getD j pd0) (vs.getD l vl0))⟩
      case round =>
        obtain ⟨k, rfl, hk, rfl, HB, I⟩ := hrel
        have B4 : Hid (Below w1.heap.size w1 wr) := B3.out.trans (HB.out.mono B3.out.size)
        by_cases hlt : k < ps.length
        · obtain ⟨g, rfl, hg, hc, c0, c1, c2, c3, c4⟩ := (H1.out.2.1.below B4.out).row k hlt
          obtain ⟨l, hfl, hpl⟩ := (HFil.out.2.2 k hlt).2
          have hll : l < az.length := hfl.1
          have hlv : l < vs.length := by have := HLe.out; omega
          obtain ⟨g', rfl, hg', hc', d0, d1⟩ := (H1.out.2.2.below B4.out).row l hlv
          have hzz := HZ.out.1 k hlt
          have hzv := HZ.out.2.1 l hlv
          have e0' := cell_grown g0 HB.out
          have hs1 : w1.heap.size ≤ wr.heap.size := B4.out.size
          have hs0 : w.heap.size < wr.heap.size := by omega
          have IK : Hid (Takes (ps.getD k pd0) (vs.getD l vl0) → ∀ j, j < k + 1 → ∃ l, FindAt az (ps.getD j pd0).name l ∧ Takes (ps.getD j pd0) (vs.getD l vl0)) := fun h1 j hj => by
            by_cases e : j = k
            · subst e; exact ⟨l, hfl, h1⟩
            · exact I.out j (by omega)
          have NK : Hid (MatchOk az ps vs pay.size → Takes (ps.getD k pd0) (vs.getD l vl0)) := fun hp => by
            obtain ⟨m, h1, h2⟩ := hp.2.2 k hlt
            rw [hfl.uniq h1]; exact h2
          have HR : Hid (Found az (ps.getD k pd0).name l) := .inl ⟨l, rfl, hfl⟩
          clear hfl hpl
          by_cases hP : Takes (ps.getD k pd0) (vs.getD l vl0)
          all_goals
            have HP : Hid _ := hP
            clear hP
            generalize ps.getD k pd0 = y at c0 c1 c2 c3 c4 HP IK NK hzz HR
            generalize vs.getD l vl0 = z at d0 d1 HP IK NK hzv
            obtain ⟨W0, hW0⟩ : ∃ W0, W0 = wr.alloc (.cells #[.string y.name, .int .i64 y.op, .int .i64 y.lo, .int .i64 y.hi, .string y.str] 148) := ⟨_, rfl⟩
            have b0 : Below wr.heap.size wr W0 := by rw [hW0]; exact below1 _ _
            have s0 : W0.heap.size = wr.heap.size + 1 := by rw [hW0]; simp
            have f0 : W0.cell? ⟨wr.heap.size, 0, none⟩ = some (.string y.name) := by rw [hW0]; exact World.cell?_alloc_new ..
            have f1 : W0.cell? ⟨wr.heap.size, 1, none⟩ = some (.int .i64 y.op) := by rw [hW0]; simp
            have f2 : W0.cell? ⟨wr.heap.size, 2, none⟩ = some (.int .i64 y.lo) := by rw [hW0]; simp
            have f3 : W0.cell? ⟨wr.heap.size, 3, none⟩ = some (.int .i64 y.hi) := by rw [hW0]; simp
            have f4 : W0.cell? ⟨wr.heap.size, 4, none⟩ = some (.string y.str) := by rw [hW0]; simp
            obtain ⟨ι, F, _, hF0, hFb, hFc⟩ := grown_fam W0
            have F0 : ∀ i, (F i).cell? ⟨wr.heap.size, 0, none⟩ = some (.string y.name) := fun i => cell_grown f0 (hFb i)
            have F1 : ∀ i, (F i).cell? ⟨wr.heap.size, 1, none⟩ = some (.int .i64 y.op) := fun i => cell_grown f1 (hFb i)
            have F2 : ∀ i, (F i).cell? ⟨wr.heap.size, 2, none⟩ = some (.int .i64 y.lo) := fun i => cell_grown f2 (hFb i)
            have F3 : ∀ i, (F i).cell? ⟨wr.heap.size, 3, none⟩ = some (.int .i64 y.hi) := fun i => cell_grown f3 (hFb i)
            have F4 : ∀ i, (F i).cell? ⟨wr.heap.size, 4, none⟩ = some (.string y.str) := fun i => cell_grown f4 (hFb i)
            have F5 : ∀ i, (F i).cell? ⟨w.heap.size, 0, none⟩ = some (.slice (some ⟨g', 0, none⟩) vs.length c'') := fun i => cell_grown (cell_grown e0' b0) (hFb i)
            have F6 : ∀ i, (F i).cell? ⟨g', l * 2, none⟩ = some (.int .i64 z.num) := fun i => cell_grown (cell_grown d0 b0) (hFb i)
            have F7 : ∀ i, (F i).cell? ⟨g', l * 2 + 1, none⟩ = some (.string z.str) := fun i => cell_grown (cell_grown d1 b0) (hFb i)
            have A0 : Hid (AtIn W0 (.slice a az.length c) az) := (H1.out.1.below B4.out).below b0
            have HF : Hid ((∃ i, { W0 with drawn := W0.drawn + 1 } = F i) ∧ (∀ i, Below W0.heap.size W0 (F i)) ∧ (∀ i W, Below W0.heap.size (F i) W → ∃ j, W = F j)) := ⟨hF0, hFb, hFc⟩
            have B0 : Hid (Below wr.heap.size wr W0 ∧ W0.heap.size = wr.heap.size + 1) := ⟨b0, s0⟩
            clear hF0 hFb hFc b0 s0 f0 f1 f2 f3 f4
            go_wp2_with fail
            rw [← hW0]
            clear hW0
            refine wp_region_fam F HF.out.1 (by kernel_rfl) (by kernel_rfl) ?_
            repeat (go_big_quiet_step (first
              | (go_at_call 48; refine (find_any _ az _ _ (A0.out.below (HF.out.2.1 _)) hl).mono ?_; rintro e' w' ⟨⟨r', rfl, hr'⟩, hb⟩; exact ⟨by rw [hr'.uniq HR.out], HF.out.2.2 _ _ (hb.mono (HF.out.2.1 _).size)⟩)
              | (go_at_call 55; refine (takes_any _ _ _ _ _ _ _ _ hzv hzz).mono ?_; rintro e' w' ⟨hs, hb⟩; exact ⟨by first | exact hs.t HP.out | exact hs.f HP.out, HF.out.2.2 _ _ (hb.mono (HF.out.2.1 _).size)⟩)))
            refine wpQuiet_nil ?_
            rintro _ ⟨i, rfl⟩
            have BF := HF.out.2.1 i
            have BW : Hid (Below w3.heap.size w3 (F i)) := (HB.out.trans (B0.out.1.mono HB.out.size)).trans (BF.mono (by have := B0.out.2; have := HB.out.size; omega))
            generalize F i = Wn at BW
            clear BF F0 F1 F2 F3 F4 F5 F6 F7 HF B0 A0 c0 c1 c2 c3 c4 d0 d1 e0'
            go_wp2
          · go_roundg (ps.length - (k + 1))
            case measure => omega
            case rel => exact ⟨k + 1, by go_num, by omega, rfl, BW, IK.out HP.out⟩
          · go_ret
            exact ⟨Says.no fun h => HP.out (NK.out h), (B1.out.1.trans (B3.out.mono (by omega))).trans (BW.out.mono (by omega))⟩
        · go_wp2
          go_ret
          exact ⟨Says.yes ⟨HFil.out, HEv.out, fun i hi => I.out i (by omega)⟩, B1.out.1.trans (B4.out.mono (by omega))⟩
    · have HEv : Hid (¬ EventOk az vs pay.size) := hF
      clear hF
      go_wp2
      go_ret
      exact ⟨Says.no fun h => HEv.out h.2.1, B1.out.1.trans (B3.out.mono (by omega))⟩
  · have HFil : Hid (¬ FilterOk az ps) := hF
    clear hF
    go_wp2
    go_ret
    exact ⟨Says.no fun h => HFil.out h.1, B1.out.1.trans (B2.out.mono (by omega))⟩
end Go.Proofs.YtpepbhmdfjpblaaGreatDoor
