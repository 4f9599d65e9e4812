/- value.Schema.Event: is an event one of the schema's? -/
import Derived.Test.YtpepbhmdfjpblaaGreatDoorValFind
import Derived.Test.YtpepbhmdfjpblaaGreatDoorFam
namespace Go.Proofs.YtpepbhmdfjpblaaGreatDoor
open Go.ChangeShapes Go.WideShapes Go.ChangeAt Go.RowKit
set_option linter.unusedVariables false

/-- A call's error: none, if P; else a fault of ErrSchema. -/
def ErrIf (e : Ending) (w : World) (P : Prop) : Prop :=
  (e = .returned .nilIface ∧ P) ∨ ∃ (b : Nat) (n : Int), e = .returned (.iface 170 (.pointer (some ⟨b, 0, none⟩))) ∧ ¬ P ∧
    w.heap[b]? = some (.cells #[.string ⟨#[118, 97, 108, 117, 101]⟩, .int .i64 n, .iface 36 (.int .i64 3)] 172 (0, 0))
theorem ErrIf.ok {w : World} {P : Prop} (h : P) : ErrIf (.returned .nilIface) w P := .inl ⟨rfl, h⟩
theorem ErrIf.bad {w : World} {P : Prop} {n : Int} (h : ¬ P) : ErrIf (.returned (.iface 170 (.pointer (some ⟨w.heap.size, 0, none⟩)))) (w.alloc (.cells #[.string ⟨#[118, 97, 108, 117, 101]⟩, .int .i64 n, .iface 36 (.int .i64 3)] 172)) P :=
  .inr ⟨_, _, rfl, h, heap_alloc_new w _⟩
theorem ErrIf.bad2 {w : World} {o : Obj} {P : Prop} {n : Int} (h : ¬ P) : ErrIf (.returned (.iface 170 (.pointer (some ⟨w.heap.size + 1, 0, none⟩)))) ((w.alloc o).alloc (.cells #[.string ⟨#[118, 97, 108, 117, 101]⟩, .int .i64 n, .iface 36 (.int .i64 3)] 172)) P := by
  have := heap_alloc_new (w.alloc o) (.cells #[.string ⟨#[118, 97, 108, 117, 101]⟩, .int .i64 n, .iface 36 (.int .i64 3)] 172)
  have e : (w.alloc o).heap.size = w.heap.size + 1 := by simp
  rw [e] at this
  exact .inr ⟨_, _, rfl, h, this⟩
theorem ErrIf.t {e : Ending} {w : World} {P : Prop} (h : ErrIf e w P) (hp : P) : e = .returned .nilIface := by
  rcases h with ⟨rfl, _⟩ | ⟨_, _, _, hn, _⟩
  · rfl
  · exact absurd hp hn
theorem ErrIf.f {e : Ending} {w : World} {P : Prop} (h : ErrIf e w P) (hp : ¬ P) : ∃ b, e = .returned (.iface 170 (.pointer (some ⟨b, 0, none⟩))) := by
  rcases h with ⟨_, hn⟩ | ⟨b, _, rfl, _⟩
  · exact absurd hn hp
  · exact ⟨b, rfl⟩
theorem Says.t {e : Ending} {P : Prop} (h : Says e P) (hp : P) : e = .returned (.bool true) := by
  obtain ⟨b, rfl, hb⟩ := h
  rw [hb.mpr hp]
theorem Says.f {e : Ending} {P : Prop} (h : Says e P) (hp : ¬ P) : e = .returned (.bool false) := by
  obtain ⟨b, rfl, hb⟩ := h
  cases b
  · rfl
  · exact absurd (hb.mp rfl) hp

set_option maxHeartbeats 2000000 in
theorem event_any (v u : Value) (az : List At) (vs : List Vl) (pay : ByteArray) (w : World) (h : AtIn w v az) (hv : VlIn w u vs) (hl : az.length ≤ 1000) (hl2 : vs.length ≤ 1000) (hp : pay.size ≤ maxLen)
    (hz : ∀ i, i < vs.length → (vs.getD i vl0).str.size ≤ maxLen) :
    Calls Tryz.prog 43 #[v, .agg #[u, .string pay]] w fun e w' => ErrIf e w' (EventOk az vs pay.size) ∧ Below w.heap.size w w' := by
  unfold maxLen at hp
  obtain ⟨w1, hw1⟩ : ∃ w1, w1 = w.alloc (.cells #[u, .string pay] 44) := ⟨_, rfl⟩
  have b1 : Below w.heap.size w w1 := by rw [hw1]; exact below1 _ _
  have s1 : w1.heap.size = w.heap.size + 1 := by rw [hw1]; simp
  have e0 : w1.cell? ⟨w.heap.size, 0, none⟩ = some u := by rw [hw1]; exact World.cell?_alloc_new ..
  obtain ⟨a, c, rfl, hh⟩ := h.shape
  obtain ⟨a', c', rfl, hh'⟩ := hv.shape
  have HZ : Hid (∀ i, i < vs.length → (vs.getD i vl0).str.size ≤ maxLen) := hz
  have H1 : Hid (AtIn w1 (.slice a az.length c) az ∧ VlIn w1 (.slice a' vs.length c') vs) := ⟨h.below b1, hv.below b1⟩
  have B1 : Hid (Below w.heap.size w w1 ∧ w1.heap.size = w.heap.size + 1) := ⟨b1, s1⟩
  clear hz h hv hh hh' b1 s1
  by_cases e1 : vs.length = az.length
  · by_cases e2 : pay.size ≤ 200
    · have E1 : Hid (vs.length = az.length) := e1
      rw [e1] at hw1 e0 H1 ⊢
      clear e1
      go_enter Tryz.func43, Tryz.ntmps43
      go_wp2
      rw [← hw1]
      clear hw1
      go_loopg [22] az.length (fun kx s wr => ∃ k : Nat, s = .int .i64 k ∧ k ≤ az.length ∧ kx = az.length - k ∧ Hid (Below w1.heap.size w1 wr) ∧ Hid (∀ j, j < k → ValOk (az.getD j at0) (vs.getD j vl0)))
      case atStart => exact ⟨0, rfl, Nat.zero_le _, rfl, (Below.refl _ _ : Below w1.heap.size w1 w1), (fun j hj => absurd hj (Nat.not_lt_zero _) : ∀ j, j < 0 → ValOk (az.getD j at0) (vs.getD j vl0))⟩
      case round =>
        obtain ⟨k, rfl, hk, rfl, HB, I⟩ := hrel
        by_cases hlt : k < az.length
        · obtain ⟨g, rfl, hg, hc, c0, c1, c2, c3⟩ := (H1.out.1.below HB.out).row k hlt
          obtain ⟨g', rfl, hg', hc', d0, d1⟩ := (H1.out.2.below HB.out).row k (by have := E1.out; omega)
          have hzz := HZ.out k (by have := E1.out; omega)
          have e0' := cell_grown e0 HB.out
          have hs1 : w1.heap.size ≤ wr.heap.size := HB.out.size
          have hs0 : w.heap.size < wr.heap.size := by have := B1.out.2; omega
          by_cases hP : ValOk (az.getD k at0) (vs.getD k vl0)
          all_goals
            have IK : Hid (ValOk (az.getD k at0) (vs.getD k vl0) → ∀ j, j < k + 1 → ValOk (az.getD j at0) (vs.getD j vl0)) := fun hp j hj => by
              by_cases e : j = k
              · subst e; exact hp
              · exact I.out j (by omega)
            have NK : Hid (EventOk az vs pay.size → ValOk (az.getD k at0) (vs.getD k vl0)) := fun hp => hp.2.2 k hlt
            generalize az.getD k at0 = x at c0 c1 c2 c3 hP IK NK
            generalize vs.getD k vl0 = y at d0 d1 hP IK NK hzz
            have HP : Hid _ := hP
            clear hP
            obtain ⟨W0, hW0⟩ : ∃ W0, W0 = wr.alloc (.cells #[.string x.name, .int .i64 x.kind, .int .i64 x.mn, .int .i64 x.mx] 78) := ⟨_, rfl⟩
            have b0 : Below wr.heap.size wr W0 := by rw [hW0]; exact below1 _ _
            have s0 : W0.heap.size = wr.heap.size + 1 := by rw [hW0]; simp
            have f0 : W0.cell? ⟨wr.heap.size, 0, none⟩ = some (.string x.name) := by rw [hW0]; exact World.cell?_alloc_new ..
            have f1 : W0.cell? ⟨wr.heap.size, 1, none⟩ = some (.int .i64 x.kind) := by rw [hW0]; simp
            have f2 : W0.cell? ⟨wr.heap.size, 2, none⟩ = some (.int .i64 x.mn) := by rw [hW0]; simp
            have f3 : W0.cell? ⟨wr.heap.size, 3, none⟩ = some (.int .i64 x.mx) := by rw [hW0]; simp
            obtain ⟨ι, F, _, hF0, hFb, hFc⟩ := grown_fam W0
            have F0 : ∀ i, (F i).cell? ⟨wr.heap.size, 0, none⟩ = some (.string x.name) := fun i => cell_grown f0 (hFb i)
            have F1 : ∀ i, (F i).cell? ⟨wr.heap.size, 1, none⟩ = some (.int .i64 x.kind) := fun i => cell_grown f1 (hFb i)
            have F2 : ∀ i, (F i).cell? ⟨wr.heap.size, 2, none⟩ = some (.int .i64 x.mn) := fun i => cell_grown f2 (hFb i)
            have F3 : ∀ i, (F i).cell? ⟨wr.heap.size, 3, none⟩ = some (.int .i64 x.mx) := fun i => cell_grown f3 (hFb i)
            have F4 : ∀ i, (F i).cell? ⟨w.heap.size, 0, none⟩ = some (.slice (some ⟨g', 0, none⟩) az.length c') := fun i => cell_grown (cell_grown e0' b0) (hFb i)
            have F5 : ∀ i, (F i).cell? ⟨g', k * 2, none⟩ = some (.int .i64 y.num) := fun i => cell_grown (cell_grown d0 b0) (hFb i)
            have F6 : ∀ i, (F i).cell? ⟨g', k * 2 + 1, none⟩ = some (.string y.str) := fun i => cell_grown (cell_grown d1 b0) (hFb i)
            have HF : Hid ((∃ i, { W0 with drawn := W0.drawn + 1 } = F i) ∧ (∀ i, Below W0.heap.size W0 (F i)) ∧ (∀ i W, Below W0.heap.size (F i) W → ∃ j, W = F j)) := ⟨hF0, hFb, hFc⟩
            have B0 : Hid (Below wr.heap.size wr W0 ∧ W0.heap.size = wr.heap.size + 1) := ⟨b0, s0⟩
            clear hF0 hFb hFc b0 s0 f0 f1 f2 f3
            go_wp2_with fail
            rw [← hW0]
            clear hW0
            refine wp_region_fam F HF.out.1 (by kernel_rfl) (by kernel_rfl) ?_
            repeat (go_big_quiet_step (first | (go_at_call 67; refine (valueOf_any _ _ _ _ _ _ _ hzz).mono ?_; rintro e' w' ⟨hs, hb⟩; exact ⟨by first | exact hs.t HP.out | exact hs.f HP.out, HF.out.2.2 _ _ (hb.mono (HF.out.2.1 _).size)⟩)))
            refine wpQuiet_nil ?_
            rintro _ ⟨i, rfl⟩
            have BF := HF.out.2.1 i
            have BW : Hid (Below w1.heap.size w1 (F i)) := (HB.out.trans (B0.out.1.mono hs1)).trans (BF.mono (by have := B0.out.2; omega))
            have B9 : Hid (Below w.heap.size w w1) := B1.out.1
            generalize F i = Wn at BW
            clear BF F0 F1 F2 F3 F4 F5 F6 HF B0 c0 c1 c2 c3 d0 d1 e0'
            go_wp2_with (go_at_call 46; refine (wrong_any _ _).mono ?_; rintro e w' ⟨rfl, rfl⟩)
          · go_roundg (az.length - (k + 1))
            case measure => omega
            case rel => exact ⟨k + 1, by go_num, by omega, rfl, BW, IK.out HP.out⟩
          · go_ret
            exact ⟨ErrIf.bad fun h => HP.out (NK.out h), (B9.out.trans (BW.out.mono B9.out.size)).trans ((below1 _ _).mono (Nat.le_trans B9.out.size BW.out.size))⟩
        · go_wp2
          go_ret
          exact ⟨ErrIf.ok ⟨E1.out, e2, fun i hi => I.out i (by omega)⟩, B1.out.1.trans (HB.out.mono B1.out.1.size)⟩
    · go_enter Tryz.func43, Tryz.ntmps43
      go_wp2_with (go_at_call 46; refine (wrong_any _ _).mono ?_; rintro e w' ⟨rfl, rfl⟩)
      go_ret
      exact ⟨ErrIf.bad2 fun h => e2 h.2.1, below2 _ _ _⟩
  · have e1' : ¬ ((vs.length : Int) = (az.length : Int)) := by omega
    go_enter Tryz.func43, Tryz.ntmps43
    go_wp2_with (go_at_call 46; refine (wrong_any _ _).mono ?_; rintro e w' ⟨rfl, rfl⟩)
    go_ret
    exact ⟨ErrIf.bad2 fun h => e1 h.1, below2 _ _ _⟩
end Go.Proofs.YtpepbhmdfjpblaaGreatDoor
