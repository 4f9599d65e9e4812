/- value.Schema.Filter: is a filter one of the schema's? -/
import Derived.Test.YtpepbhmdfjpblaaGreatDoorValCheck
namespace Go.Proofs.YtpepbhmdfjpblaaGreatDoor
open Go.ChangeShapes Go.WideShapes Go.ChangeAt Go.RowKit
set_option linter.unusedVariables false

/-- One predicate of a filter is right. -/
def PGood (az : List At) (ps : List Pd) (i : Nat) : Prop := (∀ j, j < i → (ps.getD j pd0).name ≠ (ps.getD i pd0).name) ∧ ∃ k, FindAt az (ps.getD i pd0).name k ∧ PredOk (az.getD k at0) (ps.getD i pd0)
theorem again_take {ps : List Pd} {k : Nat} (hk : k < ps.length) (x : ByteArray) : (∃ j, j < (ps.take k).length ∧ ((ps.take k).getD j pd0).name = x) ↔ ∃ j, j < k ∧ (ps.getD j pd0).name = x := by
  have hl : (ps.take k).length = k := by simp; omega
  rw [hl]
  constructor
  · rintro ⟨j, h1, h2⟩; rw [getD_take _ _ _ _ h1] at h2; exact ⟨j, h1, h2⟩
  · rintro ⟨j, h1, h2⟩; refine ⟨j, h1, ?_⟩; rw [getD_take _ _ _ _ h1]; exact h2

set_option maxHeartbeats 4000000 in
theorem filter_any (v u : Value) (az : List At) (ps : List Pd) (w : World) (h : AtIn w v az) (hv : PdIn w u ps) (hl : az.length ≤ 1000) (hl2 : ps.length ≤ 1000) (hz : ∀ i, i < ps.length → (ps.getD i pd0).str.size ≤ maxLen) :
    Calls Tryz.prog 54 #[v, u] w fun e w' => ErrIf e w' (FilterOk az ps) ∧ Below w.heap.size w w' := by
  have hmf : ∀ (fn : Fn) (first cap : Array Value) (w : World), (Instr.makeFunc fn first cap).run Tryz.prog w = .ok (.func fn first cap) w := fun _ _ _ _ => rfl
  have H1 : Hid (AtIn w v az ∧ PdIn w u ps) := ⟨h, hv⟩
  obtain ⟨a, c, rfl, hh⟩ := h.shape
  obtain ⟨a', c', rfl, hh'⟩ := hv.shape
  have HZ : Hid (∀ i, i < ps.length → (ps.getD i pd0).str.size ≤ maxLen) := hz
  clear hz h hh hv hh'
  by_cases e1 : 1 ≤ ps.length
  · by_cases e2 : ps.length ≤ 4
    · go_enter Tryz.func54, Tryz.ntmps54
      go_wp2
      go_loopg [20] ps.length (fun kx s wr => ∃ k : Nat, s = .int .i64 k ∧ k ≤ ps.length ∧ kx = ps.length - k ∧ Hid (Below w.heap.size w wr) ∧ Hid (∀ j, j < k → PGood az ps j))
      case atStart => exact ⟨0, rfl, Nat.zero_le _, rfl, (Below.refl _ _ : Below w.heap.size w w), (fun j hj => absurd hj (Nat.not_lt_zero _) : ∀ j, j < 0 → PGood az ps j)⟩
      case round =>
        obtain ⟨k, rfl, hk, rfl, HB, I⟩ := hrel
        by_cases hlt : k < ps.length
        · obtain ⟨g, rfl, hg, hc, c0, c1, c2, c3, c4⟩ := (H1.out.2.below HB.out).row k hlt
          have hzz := HZ.out k hlt
          have hs1 : w.heap.size ≤ wr.heap.size := HB.out.size
          have IK : Hid ((¬ ∃ j, j < k ∧ (ps.getD j pd0).name = (ps.getD k pd0).name) → (∃ l, FindAt az (ps.getD k pd0).name l ∧ PredOk (az.getD l at0) (ps.getD k pd0)) → ∀ j, j < k + 1 → PGood az ps j) := fun h1 h2 j hj => by
            by_cases e : j = k
            · subst e; exact ⟨fun i hi e => h1 ⟨i, hi, e⟩, h2⟩
            · exact I.out j (by omega)
          have NK : Hid (FilterOk az ps → (¬ ∃ j, j < k ∧ (ps.getD j pd0).name = (ps.getD k pd0).name) ∧ ∃ l, FindAt az (ps.getD k pd0).name l ∧ PredOk (az.getD l at0) (ps.getD k pd0)) := fun hp =>
            ⟨fun ⟨j, h1, h2⟩ => (hp.2.2 k hlt).1 j h1 h2, (hp.2.2 k hlt).2⟩
          have AG : Hid (∀ x : ByteArray, (∃ j, j < (ps.take k).length ∧ ((ps.take k).getD j pd0).name = x) ↔ ∃ j, j < k ∧ (ps.getD j pd0).name = x) := again_take hlt
          have hcap : (k : Int) ≤ (c' : Int) := by omega
          generalize ps.getD k pd0 = y at c0 c1 c2 c3 c4 IK NK hzz
          obtain ⟨W0, hW0⟩ : ∃ W0, W0 = wr.alloc (.cells #[.string y.name, .int .i64 y.op, .int .i64 y.lo, .int .i64 y.hi, .string y.str] 148) := ⟨_, rfl⟩
          have b0 : Below wr.heap.size wr W0 := by rw [hW0]; exact below1 _ _
          have s0 : W0.heap.size = wr.heap.size + 1 := by rw [hW0]; simp
          have f0 : W0.cell? ⟨wr.heap.size, 0, none⟩ = some (.string y.name) := by rw [hW0]; exact World.cell?_alloc_new ..
          have f1 : W0.cell? ⟨wr.heap.size, 1, none⟩ = some (.int .i64 y.op) := by rw [hW0]; simp
          have f2 : W0.cell? ⟨wr.heap.size, 2, none⟩ = some (.int .i64 y.lo) := by rw [hW0]; simp
          have f3 : W0.cell? ⟨wr.heap.size, 3, none⟩ = some (.int .i64 y.hi) := by rw [hW0]; simp
          have f4 : W0.cell? ⟨wr.heap.size, 4, none⟩ = some (.string y.str) := by rw [hW0]; simp
          have A0 : Hid (PdIn W0 (.slice (some ⟨g, 0, none⟩) k c') (ps.take k)) := ((H1.out.2.below HB.out).below b0).take k (by omega)
          have B0 : Hid (Below w.heap.size w W0 ∧ W0.heap.size = wr.heap.size + 1) := ⟨HB.out.trans (b0.mono hs1), s0⟩
          clear b0 s0
          go_wp2_with fail
          rw [← hW0]
          clear hW0 c0 c1 c2 c3 c4
          refine (contains_any _ (ps.take k) wr.heap.size y.name W0 A0.out (by simp; omega) f0 (by have := B0.out.2; omega)).mono ?_
          rintro e w1 ⟨⟨b, rfl, hb⟩, b1⟩
          have BG : Hid (b = true ↔ ∃ j, j < k ∧ (ps.getD j pd0).name = y.name) := hb.trans (AG.out y.name)
          have g0 := cell_grown f0 b1
          have g1 := cell_grown f1 b1
          have g2 := cell_grown f2 b1
          have g3 := cell_grown f3 b1
          have g4 := cell_grown f4 b1
          have B2 : Hid (Below w.heap.size w w1 ∧ wr.heap.size < w1.heap.size) := ⟨B0.out.1.trans (b1.mono B0.out.1.size), by have := b1.size; have := B0.out.2; omega⟩
          clear f0 f1 f2 f3 f4 hb AG A0 B0 b1
          have hlt1 : wr.heap.size < w1.heap.size := B2.out.2
          go_wp2_with fail
          refine (find_any _ az _ _ (H1.out.1.below B2.out.1) hl).mono ?_
          rintro e w2 ⟨⟨r, rfl, hr⟩, b2⟩
          have HR : Hid (Found az y.name r) := hr
          have f0 := cell_grown g0 b2
          have f1 := cell_grown g1 b2
          have f2 := cell_grown g2 b2
          have f3 := cell_grown g3 b2
          have f4 := cell_grown g4 b2
          have B3 : Hid (Below w.heap.size w w2) := B2.out.1.trans (b2.mono B2.out.1.size)
          clear g0 g1 g2 g3 g4 hr b2
          obtain ⟨ι, F, _, hF0, hFb, hFc⟩ := grown_fam w2
          have F0 : ∀ i, (F i).cell? ⟨wr.heap.size, 0, none⟩ = some (.string y.name) := fun i => cell_grown f0 (hFb i)
          have F1 : ∀ i, (F i).cell? ⟨wr.heap.size, 1, none⟩ = some (.int .i64 y.op) := fun i => cell_grown f1 (hFb i)
          have F2 : ∀ i, (F i).cell? ⟨wr.heap.size, 2, none⟩ = some (.int .i64 y.lo) := fun i => cell_grown f2 (hFb i)
          have F3 : ∀ i, (F i).cell? ⟨wr.heap.size, 3, none⟩ = some (.int .i64 y.hi) := fun i => cell_grown f3 (hFb i)
          have F4 : ∀ i, (F i).cell? ⟨wr.heap.size, 4, none⟩ = some (.string y.str) := fun i => cell_grown f4 (hFb i)
          have HF : Hid ((∃ i, { w2 with drawn := w2.drawn + 1 } = F i) ∧ (∀ i, Below w2.heap.size w2 (F i)) ∧ (∀ i W, Below w2.heap.size (F i) W → ∃ j, W = F j)) := ⟨hF0, hFb, hFc⟩
          clear hF0 hFb hFc f0 f1 f2 f3 f4
          cases b
          · have hng : Hid (¬ ∃ j, j < k ∧ (ps.getD j pd0).name = y.name) := fun h => by have := BG.out.mpr h; simp at this
            by_cases hr0 : r < 0
            · have hno : Hid (¬ ∃ l, FindAt az y.name l ∧ PredOk (az.getD l at0) y) := fun ⟨l, h1, _⟩ => by
                have := HR.out.uniq (.inl ⟨l, rfl, h1⟩); omega
              go_wp2_with fail
              refine wp_region_fam F HF.out.1 (by kernel_rfl) (by kernel_rfl) ?_
              repeat (go_big_quiet_step (fail))
              refine wpQuiet_nil ?_
              rintro _ ⟨i, rfl⟩
              have BW : Hid (Below w.heap.size w (F i)) := B3.out.trans ((HF.out.2.1 i).mono B3.out.size)
              generalize F i = Wn at BW
              clear F0 F1 F2 F3 F4 HF B2 B3
              go_wp2_with (go_at_call 46; refine (wrong_any _ _).mono ?_; rintro e w' ⟨rfl, rfl⟩)
              go_ret
              exact ⟨ErrIf.bad fun h => hno.out (NK.out h).2, BW.out.trans ((below1 _ _).mono BW.out.size)⟩
            · obtain ⟨l, rfl, hfl⟩ : ∃ l : Nat, r = l ∧ FindAt az y.name l := by
                rcases HR.out with h | h
                · exact h
                · omega
              have HFL : Hid (FindAt az y.name l) := hfl
              have hll : l < az.length := hfl.1
              clear hfl hr0
              obtain ⟨g', rfl, hg', hc', d0, d1, d2, d3⟩ := (H1.out.1.below B3.out).row l hll
              have UQ : Hid ((∃ l, FindAt az y.name l ∧ PredOk (az.getD l at0) y) → PredOk (az.getD l at0) y) := fun ⟨m, h1, h2⟩ => by rw [HFL.out.uniq h1]; exact h2
              have UP : Hid (PredOk (az.getD l at0) y → ∃ l, FindAt az y.name l ∧ PredOk (az.getD l at0) y) := fun h => ⟨l, HFL.out, h⟩
              have hFb := HF.out.2.1
              generalize az.getD l at0 = x at d0 d1 d2 d3 UQ UP
              have G0 : ∀ i, (F i).cell? ⟨g', l * 4, none⟩ = some (.string x.name) := fun i => cell_grown d0 (hFb i)
              have G1 : ∀ i, (F i).cell? ⟨g', l * 4 + 1, none⟩ = some (.int .i64 x.kind) := fun i => cell_grown d1 (hFb i)
              have G2 : ∀ i, (F i).cell? ⟨g', l * 4 + 2, none⟩ = some (.int .i64 x.mn) := fun i => cell_grown d2 (hFb i)
              have G3 : ∀ i, (F i).cell? ⟨g', l * 4 + 3, none⟩ = some (.int .i64 x.mx) := fun i => cell_grown d3 (hFb i)
              clear hFb d0 d1 d2 d3
              have hl0 : decide ((l : Int) < 0) = false := decide_eq_false (by omega)
              by_cases hP : PredOk x y
              all_goals
                have HP : Hid _ := hP
                clear hP
                go_wp2_with fail
                refine wp_region_fam F HF.out.1 (by kernel_rfl) (by kernel_rfl) ?_
                repeat (go_big_quiet_step (first
                  | (go_at_call 78; refine (predOf_any _ _ _ _ _ _ _ _ _ _ hzz).mono ?_; rintro e' w' ⟨hs, hb⟩; exact ⟨by first | exact hs.t HP.out | exact hs.f HP.out, HF.out.2.2 _ _ (hb.mono (HF.out.2.1 _).size)⟩)))
                refine wpQuiet_nil ?_
                rintro _ ⟨i, rfl⟩
                have BW : Hid (Below w.heap.size w (F i)) := B3.out.trans ((HF.out.2.1 i).mono B3.out.size)
                generalize F i = Wn at BW
                clear F0 F1 F2 F3 F4 G0 G1 G2 G3 HF B2 B3
                go_wp2_with (go_at_call 46; refine (wrong_any _ _).mono ?_; rintro e w' ⟨rfl, rfl⟩)
              · go_roundg (ps.length - (k + 1))
                case measure => omega
                case rel => exact ⟨k + 1, by go_num, by omega, rfl, BW, IK.out hng.out (UP.out HP.out)⟩
              · go_ret
                exact ⟨ErrIf.bad fun h => HP.out (UQ.out (NK.out h).2), BW.out.trans ((below1 _ _).mono BW.out.size)⟩
          · have hyg : Hid (∃ j, j < k ∧ (ps.getD j pd0).name = y.name) := BG.out.mp rfl
            go_wp2_with fail
            refine wp_region_fam F HF.out.1 (by kernel_rfl) (by kernel_rfl) ?_
            repeat (go_big_quiet_step (fail))
            refine wpQuiet_nil ?_
            rintro _ ⟨i, rfl⟩
            have BW : Hid (Below w.heap.size w (F i)) := B3.out.trans ((HF.out.2.1 i).mono B3.out.size)
            generalize F i = Wn at BW
            clear F0 F1 F2 F3 F4 HF B2 B3
            go_wp2_with (go_at_call 46; refine (wrong_any _ _).mono ?_; rintro e w' ⟨rfl, rfl⟩)
            go_ret
            exact ⟨ErrIf.bad fun h => (NK.out h).1 hyg.out, BW.out.trans ((below1 _ _).mono BW.out.size)⟩
        · go_wp2
          go_ret
          exact ⟨ErrIf.ok ⟨e1, e2, fun i hi => I.out i (by omega)⟩, HB.out⟩
    · go_enter Tryz.func54, Tryz.ntmps54
      go_wp2_with (go_at_call 46; refine (wrong_any _ _).mono ?_; rintro e w' ⟨rfl, rfl⟩)
      go_ret
      exact ⟨ErrIf.bad fun h => e2 h.2.1, below1 _ _⟩
  · go_enter Tryz.func54, Tryz.ntmps54
    go_wp2_with (go_at_call 46; refine (wrong_any _ _).mono ?_; rintro e w' ⟨rfl, rfl⟩)
    go_ret
    exact ⟨ErrIf.bad fun h => e1 h.1, below1 _ _⟩
end Go.Proofs.YtpepbhmdfjpblaaGreatDoor
