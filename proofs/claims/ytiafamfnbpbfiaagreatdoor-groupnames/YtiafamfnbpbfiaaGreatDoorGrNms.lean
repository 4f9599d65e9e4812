/- wigwaglaw08.GroupNames, walked. -/
import Derived.Test.YtiafamfnbpbfiaaGreatDoorGrRead2
import Derived.Test.YtiafamfnbpbfiaaGreatDoorGrAwake
import Derived.Test.YtiafamfnbpbfiaaGreatDoorHash
import Derived.Test.YtiafamfnbpbfiaaGreatDoorIsCode
import Derived.Test.YtiafamfnbpbfiaaGreatDoorCut
import Derived.Test.YtiafamfnbpbfiaaGreatDoorDyRow
namespace Go.Proofs.YtiafamfnbpbfiaaGreatDoor
open Go.ChangeShapes Go.WideShapes Go.ChangeAt Go.RowKit
set_option linter.unusedVariables false

def gkey (s : ByteArray) : Int := hashN (⟨#[103, 114, 111, 117, 112, 32]⟩ ++ s)
theorem gkey_size (s : ByteArray) (h : s.size ≤ 200) : (⟨#[103, 114, 111, 117, 112, 32]⟩ ++ s : ByteArray).size ≤ 300 := by
  rw [ByteArray.size_append]
  have : (⟨#[103, 114, 111, 117, 112, 32]⟩ : ByteArray).size = 6 := rfl
  omega
set_option maxHeartbeats 1000000 in
theorem key_any (s : ByteArray) (w : World) (hs : s.size ≤ 200) : Calls Tryz.prog 11 #[.string s] w fun e w' => e = .returned (.int .u64 (gkey s)) ∧ w' = w := by
  have h := gkey_size s hs
  have HH : Hid _ := fun W => hash_any (⟨#[103, 114, 111, 117, 112, 32]⟩ ++ s) W h
  have HK : Hid (gkey s = hashN (⟨#[103, 114, 111, 117, 112, 32]⟩ ++ s)) := (rfl : gkey s = hashN (⟨#[103, 114, 111, 117, 112, 32]⟩ ++ s))
  go_enter Tryz.func11, Tryz.ntmps11
  go_wp2_with fail
  refine Calls.mono (HH.out _) ?_
  rintro e w' ⟨rfl, hw'⟩
  subst w'
  rw [← HK.out]
  go_wp2
  go_ret
  exact ⟨rfl, rfl⟩
set_option maxHeartbeats 1000000 in
theorem rkey_any (s : ByteArray) (w : World) (hs : s.size ≤ 200) : Calls Tryz.prog 12 #[.string s] w fun e w' => e = .returned (.int .u64 (gkey s)) ∧ w' = w := by
  have h := gkey_size s hs
  have HH : Hid _ := fun W => refhash_any (⟨#[103, 114, 111, 117, 112, 32]⟩ ++ s) W h
  have HK : Hid (gkey s = hashN (⟨#[103, 114, 111, 117, 112, 32]⟩ ++ s)) := (rfl : gkey s = hashN (⟨#[103, 114, 111, 117, 112, 32]⟩ ++ s))
  go_enter Tryz.func12, Tryz.ntmps12
  go_wp2_with fail
  refine Calls.mono (HH.out _) ?_
  rintro e w' ⟨rfl, hw'⟩
  subst w'
  rw [← HK.out]
  go_wp2
  go_ret
  exact ⟨rfl, rfl⟩
/-- What the two readers answer of one text. -/
def TwoR (s : ByteArray) (L : Int) : Prop :=
  ∃ (a : ByteArray) (l i : Int) (er : Value) (ok : Bool), ((er = .nilIface ∧ ok = true) ∨ (er = .iface 40 (.int .i64 11) ∧ ok = false)) ∧
    (∀ W, GEnvS W → Calls Tryz.prog 6 #[.string s, .int .i64 L] W fun e w' => e = .returned (.tuple #[.string a, .agg #[.int .i64 l, .int .i64 i], er]) ∧ Below W.heap.size W w') ∧
    (∀ W, Calls Tryz.prog 7 #[.string s, .int .i64 L] W fun e w' => e = .returned (.tuple #[.string a, .agg #[.int .i64 l, .int .i64 i], .bool ok]) ∧ Below W.heap.size W w')
theorem two_r (s : ByteArray) (L : Int) (hs : s.size ≤ 1000) : TwoR s L := by
  by_cases hG : GName s L
  · obtain ⟨a, l, i, n, hn, ha, h1, h2, h3, h4⟩ := hG
    refine ⟨a, l, i, _, _, Or.inl ⟨rfl, rfl⟩, fun W hE => ?_, fun W => ?_⟩
    · have := read_of a l i n W hE.env ha h1 h2 h3
      rw [h4, ← hn] at this
      exact this
    · refine (rread_any s L W hs).mono ?_
      rintro e w' ⟨hR, hb⟩
      refine ⟨?_, hb⟩
      rcases hR with ⟨a', l', i', n', hn', ha', g1, g2, g3, g4, he⟩ | ⟨hno, _⟩
      · obtain ⟨e1, e2, e3⟩ := gname_inj ha' ha (g4.trans h4.symm)
        subst e1 e2 e3
        exact he
      · exact absurd ⟨a, l, i, n, hn, ha, h1, h2, h3, h4⟩ hno
  · refine ⟨_, 0, 0, _, _, Or.inr ⟨rfl, rfl⟩, fun W hE => read_none s L W hE hs hG, fun W => ?_⟩
    refine (rread_any s L W hs).mono ?_
    rintro e w' ⟨hR, hb⟩
    refine ⟨?_, hb⟩
    rcases hR with ⟨a', l', i', n', hn', ha', g1, g2, g3, g4, he⟩ | ⟨_, he⟩
    · exact absurd ⟨a', l', i', n', hn', ha', g1, g2, g3, g4⟩ hG
    · exact he

set_option maxRecDepth 100000 in
set_option maxHeartbeats 4000000 in
theorem nms_walk (a0 : ByteArray) (a1 : Iv) (a2 : ByteArray) (a3 : Int) (w : World) (hE : GEnvS w) (w0 : a0.size ≤ maxLen) (w1 : a1.ok) (w2 : a2.size ≤ maxLen) :
    Calls Tryz.prog 3 #[.string a0, .agg #[.int .i64 a1.lev, .int .i64 a1.idx], .string a2, .int .i64 a3] w fun e w' => e = .returned (.bool true) ∧ Below w.heap.size w w' := by
  have hc0 := cut_size a0 20
  have hc2 := cut_size a2 60
  have HC0 : Hid _ := fun W => cut_any a0 20 W w0
  have HC2 : Hid _ := fun W => cut_any a2 60 W w2
  obtain ⟨W0, hW0⟩ : ∃ W0, W0 = w.alloc (.cells #[.int .i64 a1.lev, .int .i64 a1.idx] 23) := ⟨_, rfl⟩
  have HZ : Hid (W0.heap[w.heap.size]? = some (.cells #[.int .i64 a1.lev, .int .i64 a1.idx] 23 (0, 0)) ∧ Below w.heap.size w W0) := by
    rw [hW0]; exact ⟨heap_alloc_new w _, dbel1 _ _⟩
  have HX : Hid (i64 a1.lev ∧ i64 a1.idx) := w1
  have HE : Hid (GEnvS w) := hE
  clear hE w0 w1 w2
  generalize cut a0 20 = t0 at *
  generalize cut a2 60 = s at *
  have H2 : TwoR s a3 := two_r s a3 (by omega)
  obtain ⟨a, l, i, er, ok, hok, R1, R2⟩ := H2
  have HR1 : Hid _ := R1
  have HR2 : Hid _ := R2
  have HOK : Hid _ := hok
  clear R1 R2 hok
  go_enter Tryz.func3, Tryz.ntmps3
  go_wp2_with fail
  rw [← hW0]
  clear hW0
  refine Calls.mono (HC0.out _) ?_
  rintro e w' ⟨rfl, hw'⟩
  subst w'
  go_wp2_with fail
  refine Calls.mono (HC2.out _) ?_
  rintro e w' ⟨rfl, hw'⟩
  subst w'
  clear HC0 HC2
  go_wp2_with fail
  refine Calls.mono (HR1.out _ (HE.out.below HZ.out.2)) ?_
  rintro e W1 ⟨rfl, b1⟩
  obtain ⟨V1, hV1⟩ : ∃ V1, V1 = W1.alloc (.cells #[.int .i64 l, .int .i64 i] 23) := ⟨_, rfl⟩
  have z1 := (b1.block _ (lt_of_block HZ.out.1)).trans HZ.out.1
  have HV1 : Hid (V1.heap[w.heap.size]? = some (.cells #[.int .i64 a1.lev, .int .i64 a1.idx] 23 (0, 0)) ∧ V1.heap[W1.heap.size]? = some (.cells #[.int .i64 l, .int .i64 i] 23 (0, 0)) ∧ Below w.heap.size w V1) := by
    rw [hV1]
    exact ⟨(Below.heap_alloc _ _ _ (lt_of_block z1)).trans z1, heap_alloc_new W1 _, (HZ.out.2.trans (b1.mono HZ.out.2.size)).trans ((dbel1 _ _).mono (Nat.le_trans HZ.out.2.size b1.size))⟩
  clear b1 z1
  go_wp2_with fail
  rw [← hV1]
  clear hV1
  refine Calls.mono (HR2.out _) ?_
  rintro e W2 ⟨rfl, b2⟩
  obtain ⟨V2, hV2⟩ : ∃ V2, V2 = W2.alloc (.cells #[.int .i64 l, .int .i64 i] 29) := ⟨_, rfl⟩
  have z1 := (b2.block _ (lt_of_block HV1.out.1)).trans HV1.out.1
  have z2 := (b2.block _ (lt_of_block HV1.out.2.1)).trans HV1.out.2.1
  have hB2 : Below w.heap.size w V2 := by
    rw [hV2]
    exact (HV1.out.2.2.trans (b2.mono HV1.out.2.2.size)).trans ((dbel1 _ _).mono (Nat.le_trans HV1.out.2.2.size b2.size))
  have y1 : V2.heap[w.heap.size]? = some (.cells #[.int .i64 a1.lev, .int .i64 a1.idx] 23 (0, 0)) := by rw [hV2]; exact (Below.heap_alloc _ _ _ (lt_of_block z1)).trans z1
  have y2 : V2.heap[W1.heap.size]? = some (.cells #[.int .i64 l, .int .i64 i] 23 (0, 0)) := by rw [hV2]; exact (Below.heap_alloc _ _ _ (lt_of_block z2)).trans z2
  have y3 : V2.heap[W2.heap.size]? = some (.cells #[.int .i64 l, .int .i64 i] 29 (0, 0)) := by rw [hV2]; exact heap_alloc_new W2 _
  have c10 := box_cell (j := 0) y1 (by simp)
  have c11 := box_cell (j := 1) y1 (by simp)
  have c20 := box_cell (j := 0) y2 (by simp)
  have c21 := box_cell (j := 1) y2 (by simp)
  have c30 := box_cell (j := 0) y3 (by simp)
  have c31 := box_cell (j := 1) y3 (by simp)
  simp at c10 c11 c20 c21 c30 c31
  have hE2 : GEnvS V2 := HE.out.below hB2
  obtain ⟨ι, F, _, hF0, hFb, hFc⟩ := grown_fam V2
  have d10 : ∀ j, (F j).cell? ⟨w.heap.size, 0, none⟩ = some (.int .i64 a1.lev) := fun j => cell_grown c10 (hFb j)
  have d11 : ∀ j, (F j).cell? ⟨w.heap.size, 1, none⟩ = some (.int .i64 a1.idx) := fun j => cell_grown c11 (hFb j)
  have d20 : ∀ j, (F j).cell? ⟨W1.heap.size, 0, none⟩ = some (.int .i64 l) := fun j => cell_grown c20 (hFb j)
  have d21 : ∀ j, (F j).cell? ⟨W1.heap.size, 1, none⟩ = some (.int .i64 i) := fun j => cell_grown c21 (hFb j)
  have d30 : ∀ j, (F j).cell? ⟨W2.heap.size, 0, none⟩ = some (.int .i64 l) := fun j => cell_grown c30 (hFb j)
  have d31 : ∀ j, (F j).cell? ⟨W2.heap.size, 1, none⟩ = some (.int .i64 i) := fun j => cell_grown c31 (hFb j)
  have HF : Hid ((∃ i, { V2 with drawn := V2.drawn + 1 } = F i) ∧ (∀ i, Below V2.heap.size V2 (F i)) ∧ (∀ i W, Below V2.heap.size (F i) W → ∃ j, W = F j)) := ⟨hF0, hFb, hFc⟩
  have HB2 : Hid (Below w.heap.size w V2) := hB2
  have KA : Hid (∀ j, Calls Tryz.prog 8 #[] (F j) fun e w' => e = .returned (.bool true) ∧ Below (F j).heap.size (F j) w') := fun j => awake8_any _ (hE2.below (hFb j)).env
  have KN : Hid (∀ j, Calls Tryz.prog 9 #[.string t0, .agg #[.int .i64 a1.lev, .int .i64 a1.idx]] (F j) fun e w' => e = .returned (.string (gname t0 a1)) ∧ Below (F j).heap.size (F j) w') := fun j => name_of t0 a1 _ (hE2.below (hFb j)).env (by omega) HX.out.1 HX.out.2
  have KR : Hid (∀ j, Calls Tryz.prog 10 #[.string t0, .agg #[.int .i64 a1.lev, .int .i64 a1.idx]] (F j) fun e w' => e = .returned (.string (gname t0 a1)) ∧ Below (F j).heap.size (F j) w') := fun j => rgname_any t0 a1 _ (by omega) HX.out.1 HX.out.2
  have KK : Hid (∀ j, Calls Tryz.prog 11 #[.string s] (F j) fun e w' => e = .returned (.int .u64 (gkey s)) ∧ w' = F j) := fun j => key_any s _ (by omega)
  have KL : Hid (∀ j, Calls Tryz.prog 12 #[.string s] (F j) fun e w' => e = .returned (.int .u64 (gkey s)) ∧ w' = F j) := fun j => rkey_any s _ (by omega)
  have KI : Hid (∀ j, Calls Tryz.prog 13 #[.iface 40 (.int .i64 11), .iface 40 (.int .i64 11)] (F j) fun e w' => e = .returned (.bool true) ∧ w' = F j) := fun j => is_code 11 _
  clear c10 c11 c20 c21 c30 c31 y1 y2 y3 z1 z2 b2 hB2 hE2 hF0 hFb hFc HV1
  generalize gname t0 a1 = nm at KN KR
  generalize gkey s = ky at KK KL
  go_wp2_with fail
  rw [← hV2]
  clear hV2
  rcases HOK.out with ⟨rfl, rfl⟩ | ⟨rfl, rfl⟩
  all_goals
    clear HOK
    refine wp_region_fam F HF.out.1 (by kernel_rfl) (by kernel_rfl) ?_
    repeat (go_big_quiet_step (first
      | (go_at_call 8; refine Calls.mono (KA.out _) ?_; rintro e' w' ⟨hs, hb⟩; exact ⟨hs, HF.out.2.2 _ _ (hb.mono (HF.out.2.1 _).size)⟩)
      | (go_at_call 9; refine Calls.mono (KN.out _) ?_; rintro e' w' ⟨hs, hb⟩; exact ⟨hs, HF.out.2.2 _ _ (hb.mono (HF.out.2.1 _).size)⟩)
      | (go_at_call 10; refine Calls.mono (KR.out _) ?_; rintro e' w' ⟨hs, hb⟩; exact ⟨hs, HF.out.2.2 _ _ (hb.mono (HF.out.2.1 _).size)⟩)
      | (go_at_call 11; refine Calls.mono (KK.out _) ?_; rintro e' w' ⟨hs, hb⟩; exact ⟨hs, _, hb⟩)
      | (go_at_call 12; refine Calls.mono (KL.out _) ?_; rintro e' w' ⟨hs, hb⟩; exact ⟨hs, _, hb⟩)
      | (go_at_call 13; refine Calls.mono (KI.out _) ?_; rintro e' w' ⟨hs, hb⟩; exact ⟨hs, _, hb⟩)))
    refine wpQuiet_nil ?_
    rintro _ ⟨j, rfl⟩
    have BF := HB2.out.trans ((HF.out.2.1 j).mono HB2.out.size)
    go_wp2
    go_ret
    exact ⟨by simp, BF⟩
end Go.Proofs.YtiafamfnbpbfiaaGreatDoor
