/- value.Schema.Check, value.Schema.Filter. -/
import Derived.Test.YtpepbhmdfjpblaaGreatDoorValEvent
namespace Go.Proofs.YtpepbhmdfjpblaaGreatDoor
open Go.ChangeShapes Go.WideShapes Go.ChangeAt Go.RowKit
set_option linter.unusedVariables false

theorem found_ex (az : List At) (n : ByteArray) : ∃ r, Found az n r := by
  by_cases h : ∃ k, k < az.length ∧ (az.getD k at0).name = n
  · have : ∀ m, (∃ k, k < m ∧ k < az.length ∧ (az.getD k at0).name = n) → ∃ k, FindAt az n k := by
      intro m
      induction m with
      | zero => rintro ⟨k, h, _⟩; omega
      | succ m ih =>
        rintro ⟨k, h1, h2, h3⟩
        by_cases hh : ∃ k, k < m ∧ k < az.length ∧ (az.getD k at0).name = n
        · exact ih hh
        · refine ⟨k, h2, h3, fun j hj e => hh ⟨j, by omega, by omega, e⟩⟩
    obtain ⟨k, h1, h2⟩ := h
    obtain ⟨k', hk'⟩ := this (k + 1) ⟨k, by omega, h1, h2⟩
    exact ⟨k', .inl ⟨k', rfl, hk'⟩⟩
  · exact ⟨-1, .inr ⟨rfl, fun j hj e => h ⟨j, hj, e⟩⟩⟩
theorem Found.uniq {az : List At} {n : ByteArray} {r s : Int} (h : Found az n r) (g : Found az n s) : r = s := by
  rcases h with ⟨k, rfl, hk⟩ | ⟨rfl, hk⟩ <;> rcases g with ⟨l, rfl, hl⟩ | ⟨rfl, hl⟩
  · rw [hk.uniq hl]
  · exact absurd hk.2.1 (hl k hk.1)
  · exact absurd hl.2.1 (hk l hl.1)
  · rfl
theorem AtIn.take {w : World} {a : Option Addr} {n c : Nat} {az : List At} (h : AtIn w (.slice a n c) az) (k : Nat) (hk : k ≤ az.length) : AtIn w (.slice a k c) (az.take k) := by
  have hl : (az.take k).length = k := by simp [hk]
  refine ⟨a, c, by rw [hl], fun hp => ?_⟩
  rw [hl] at hp
  obtain ⟨a', c', e, hh⟩ := h.shape
  obtain ⟨g, ha, hg, hc, hj⟩ := hh (by omega)
  simp at e
  obtain ⟨rfl, rfl, rfl⟩ := e
  refine ⟨g, ha, hg, by omega, fun j hjk => ?_⟩
  rw [getD_take _ _ _ _ (by omega)]
  exact hj j (by omega)
theorem PdIn.take {w : World} {a : Option Addr} {n c : Nat} {az : List Pd} (h : PdIn w (.slice a n c) az) (k : Nat) (hk : k ≤ az.length) : PdIn w (.slice a k c) (az.take k) := by
  have hl : (az.take k).length = k := by simp [hk]
  refine ⟨a, c, by rw [hl], fun hp => ?_⟩
  rw [hl] at hp
  obtain ⟨a', c', e, hh⟩ := h.shape
  obtain ⟨g, ha, hg, hc, hj⟩ := hh (by omega)
  simp at e
  obtain ⟨rfl, rfl, rfl⟩ := e
  refine ⟨g, ha, hg, by omega, fun j hjk => ?_⟩
  rw [getD_take _ _ _ _ (by omega)]
  exact hj j (by omega)

/-- One attribute of a schema is right: in form, and of a name that no one ahead of it has. -/
def Good (az : List At) (i : Nat) : Prop := AttrOk (az.getD i at0) ∧ ∀ j, j < i → (az.getD j at0).name ≠ (az.getD i at0).name
theorem find_take {az : List At} {k : Nat} {r : Int} (hk : k < az.length) (h : Found (az.take k) (az.getD k at0).name r) : r < 0 ↔ ∀ j, j < k → (az.getD j at0).name ≠ (az.getD k at0).name := by
  have hl : (az.take k).length = k := by simp; omega
  rcases h with ⟨l, rfl, h1, h2, h3⟩ | ⟨rfl, h1⟩
  · rw [hl] at h1
    rw [getD_take _ _ _ _ h1] at h2
    exact ⟨fun h => by omega, fun h => absurd h2 (h l h1)⟩
  · refine ⟨fun _ j hj => ?_, fun _ => by omega⟩
    have := h1 j (by omega)
    rwa [getD_take _ _ _ _ hj] at this

set_option maxHeartbeats 2000000 in
theorem check_any (v : Value) (az : List At) (w : World) (h : AtIn w v az) (hl : az.length ≤ 1000) (hz : ∀ i, i < az.length → (az.getD i at0).name.size ≤ maxLen) :
    Calls Tryz.prog 25 #[v] w fun e w' => ErrIf e w' (SchemaOk az) ∧ Below w.heap.size w w' := by
  have H1 : Hid (AtIn w v az) := h
  obtain ⟨a, c, rfl, hh⟩ := h.shape
  have HZ : Hid (∀ i, i < az.length → (az.getD i at0).name.size ≤ maxLen) := hz
  clear hz h hh
  by_cases e1 : 1 ≤ az.length
  · by_cases e2 : az.length ≤ 4
    · go_enter Tryz.func25, Tryz.ntmps25
      go_wp2
      go_loopg [16] az.length (fun kx s wr => ∃ k : Nat, s = .int .i64 k ∧ k ≤ az.length ∧ kx = az.length - k ∧ Hid (Below w.heap.size w wr) ∧ Hid (∀ j, j < k → Good az j))
      case atStart => exact ⟨0, rfl, Nat.zero_le _, rfl, (Below.refl _ _ : Below w.heap.size w w), (fun j hj => absurd hj (Nat.not_lt_zero _) : ∀ j, j < 0 → Good az j)⟩
      case round =>
        obtain ⟨k, rfl, hk, rfl, HB, I⟩ := hrel
        by_cases hlt : k < az.length
        · obtain ⟨g, rfl, hg, hc, c0, c1, c2, c3⟩ := (H1.out.below HB.out).row k hlt
          have hzz := HZ.out k hlt
          have hs1 : w.heap.size ≤ wr.heap.size := HB.out.size
          obtain ⟨r, hr⟩ := found_ex (az.take k) (az.getD k at0).name
          have GR : Hid (r < 0 ↔ ∀ j, j < k → (az.getD j at0).name ≠ (az.getD k at0).name) := find_take hlt hr
          have IK : Hid (AttrOk (az.getD k at0) → r < 0 → ∀ j, j < k + 1 → Good az j) := fun h1 h2 j hj => by
            by_cases e : j = k
            · subst e; exact ⟨h1, GR.out.mp h2⟩
            · exact I.out j (by omega)
          have NK : Hid (SchemaOk az → AttrOk (az.getD k at0) ∧ r < 0) := fun hp => ⟨(hp.2.2 k hlt).1, GR.out.mpr (hp.2.2 k hlt).2⟩
          have HR : Hid (Found (az.take k) (az.getD k at0).name r) := hr
          have hcap : (k : Int) ≤ (c : Int) := by omega
          clear hr GR
          by_cases hP : AttrOk (az.getD k at0) <;> by_cases hr0 : r < 0
          all_goals
            generalize az.getD k at0 = x at c0 c1 c2 c3 hP IK NK HR hzz
            have HP : Hid _ := hP
            have HR0 : Hid _ := hr0
            have hr1 := HR0.out
            clear hP hr0
            obtain ⟨W0, hW0⟩ : ∃ W0, W0 = wr.alloc (.cells #[.string x.name, .int .i64 x.kind, .int .i64 x.mn, .int .i64 x.mx] 78) := ⟨_, rfl⟩
            have b0 : Below wr.heap.size wr W0 := by rw [hW0]; exact below1 _ _
            have s0 : W0.heap.size = wr.heap.size + 1 := by rw [hW0]; simp
            have f0 : W0.cell? ⟨wr.heap.size, 0, none⟩ = some (.string x.name) := by rw [hW0]; exact World.cell?_alloc_new ..
            have f1 : W0.cell? ⟨wr.heap.size, 1, none⟩ = some (.int .i64 x.kind) := by rw [hW0]; simp
            have f2 : W0.cell? ⟨wr.heap.size, 2, none⟩ = some (.int .i64 x.mn) := by rw [hW0]; simp
            have f3 : W0.cell? ⟨wr.heap.size, 3, none⟩ = some (.int .i64 x.mx) := by rw [hW0]; simp
            have A0 : Hid (AtIn W0 (.slice (some ⟨g, 0, none⟩) k c) (az.take k)) := ((H1.out.below HB.out).below b0).take k (by omega)
            obtain ⟨ι, F, _, hF0, hFb, hFc⟩ := grown_fam W0
            have F0 : ∀ i, (F i).cell? ⟨wr.heap.size, 0, none⟩ = some (.string x.name) := fun i => cell_grown f0 (hFb i)
            have F1 : ∀ i, (F i).cell? ⟨wr.heap.size, 1, none⟩ = some (.int .i64 x.kind) := fun i => cell_grown f1 (hFb i)
            have F2 : ∀ i, (F i).cell? ⟨wr.heap.size, 2, none⟩ = some (.int .i64 x.mn) := fun i => cell_grown f2 (hFb i)
            have F3 : ∀ i, (F i).cell? ⟨wr.heap.size, 3, none⟩ = some (.int .i64 x.mx) := fun i => cell_grown f3 (hFb i)
            have HF : Hid ((∃ i, { W0 with drawn := W0.drawn + 1 } = F i) ∧ (∀ i, Below W0.heap.size W0 (F i)) ∧ (∀ i W, Below W0.heap.size (F i) W → ∃ j, W = F j)) := ⟨hF0, hFb, hFc⟩
            have B0 : Hid (Below wr.heap.size wr W0 ∧ W0.heap.size = wr.heap.size + 1) := ⟨b0, s0⟩
            clear hF0 hFb hFc b0 s0 f0 f1 f2 f3
            go_wp2_with fail
            rw [← hW0]
            clear hW0
            refine wp_region_fam F HF.out.1 (by kernel_rfl) (by kernel_rfl) ?_
            repeat (go_big_quiet_step (first
              | (go_at_call 47; refine (attr_any _ _ _ _ _ hzz).mono ?_; rintro e' w' ⟨hs, hb⟩; exact ⟨by first | exact hs.t HP.out | exact hs.f HP.out, HF.out.2.2 _ _ (hb.mono (HF.out.2.1 _).size)⟩)
              | (go_at_call 48; refine (find_any _ (az.take k) _ _ (A0.out.below (HF.out.2.1 _)) (by simp; omega)).mono ?_; rintro e' w' ⟨⟨r', rfl, hr'⟩, hb⟩; exact ⟨by rw [hr'.uniq HR.out], HF.out.2.2 _ _ (hb.mono (HF.out.2.1 _).size)⟩)))
            refine wpQuiet_nil ?_
            rintro _ ⟨i, rfl⟩
            have BF := HF.out.2.1 i
            have BW : Hid (Below w.heap.size w (F i)) := (HB.out.trans (B0.out.1.mono hs1)).trans (BF.mono (by have := B0.out.2; omega))
            generalize F i = Wn at BW
            clear BF F0 F1 F2 F3 HF B0 A0 c0 c1 c2 c3
            go_wp2_with (go_at_call 46; refine (wrong_any _ _).mono ?_; rintro e w' ⟨rfl, rfl⟩)
            first
              | (go_roundg (az.length - (k + 1))
                 case measure => omega
                 case rel => exact ⟨k + 1, by go_num, by omega, rfl, BW, IK.out HP.out HR0.out⟩)
              | (go_ret
                 exact ⟨ErrIf.bad fun h => by first | exact HP.out (NK.out h).1 | exact HR0.out (NK.out h).2, BW.out.trans ((below1 _ _).mono BW.out.size)⟩)
        · go_wp2
          go_ret
          exact ⟨ErrIf.ok ⟨e1, e2, fun i hi => I.out i (by omega)⟩, HB.out⟩
    · go_enter Tryz.func25, Tryz.ntmps25
      go_wp2_with (go_at_call 46; refine (wrong_any _ _).mono ?_; rintro e w' ⟨rfl, rfl⟩)
      go_ret
      exact ⟨ErrIf.bad fun h => e2 h.2.1, below1 _ _⟩
  · go_enter Tryz.func25, Tryz.ntmps25
    go_wp2_with (go_at_call 46; refine (wrong_any _ _).mono ?_; rintro e w' ⟨rfl, rfl⟩)
    go_ret
    exact ⟨ErrIf.bad fun h => e1 h.1, below1 _ _⟩
end Go.Proofs.YtpepbhmdfjpblaaGreatDoor
