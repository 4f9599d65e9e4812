/- tree.Tree in memory: whom a node tells; how deep a node is. -/
import Derived.Test.YtkkkldglceiiiaaGreatTrMath
import Derived.Test.YtkkkldglceiiiaaGreatBkMap
import Derived.Test.YtkkkldglceiiiaaGreatPrInts
import Derived.Test.YtkkkldglceiiiaaGreatFam
import Derived.Deep.CutBlock
import Derived.Deep.DeepCutAuto
import Derived.Deep.LoopGhost
namespace Go.Proofs.YtkkkldglceiiiaaGreat
open Go.ChangeShapes Go.WideShapes Go.ChangeAt Go.RowKit Go.Deep
open Go.ChangeMaps (setBlock)
set_option linter.unusedVariables false

def kvI (k : Int) : Value := .int .i64 k
theorem findNow_intK (q : IntKind) (k : Int) : ∀ (es : List MapEntry) (m : List (Int × Value)) (i : Nat), es.map (fun e => (e.key, e.val)) = m.map (fun p => (kvI p.1, p.2)) → Instr.findNow (.int q) (.int .i64 k) es i = some (fndK m k i)
  | [], [], _, _ => rfl
  | [], _ :: _, _, h => by simp at h
  | _ :: _, [], _, h => by simp at h
  | e :: es, p :: m, i, h => by
    simp only [List.map_cons, List.cons.injEq] at h
    obtain ⟨h1, h2⟩ := h
    have hk : e.key = .int .i64 p.1 := congrArg Prod.fst h1
    have hv : e.val = p.2 := congrArg Prod.snd h1
    have ih := findNow_intK q k es m (i + 1) h2
    by_cases hp : p.1 = k
    · simp [Instr.findNow, Instr.sameNow, hk, fndK, hp, hv]
    · have hp' : ¬ k = p.1 := fun e => hp e.symm
      have e1 : (k == p.1) = false := by simpa using hp'
      simp only [Instr.findNow, Instr.sameNow, hk, fndK, e1, hp, if_true, if_false]
      simpa using ih
theorem key_int : KeyT Tryz.prog 3 kvI :=
  ⟨fun w k es m h => by
    have hn := findNow_intK .i64 k es m 0 h
    simp [Instr.findKey, run_underlying Tryz.underlying3, kvI, hn, Result.andThen], fun w b k => by unfold kvI; kernel_rfl, fun a b h => by simpa [kvI] using h⟩
def upV (m : List (Int × Int)) : List (Int × Value) := m.map fun p => (p.1, .int .i64 p.2)
theorem look_upV (m : List (Int × Int)) (k : Int) : lookK (upV m) k = (lookI m k).map (Value.int .i64) := by
  induction m with
  | nil => rfl
  | cons p m ih =>
    unfold upV at ih ⊢
    by_cases h : p.1 = k
    · simp [lookK, lookI, h]
    · simp only [List.map_cons, lookK, lookI, h, if_false]; exact ih
theorem upV_snoc (m : List (Int × Int)) (k v : Int) : upV m ++ [(k, .int .i64 v)] = upV (m ++ [(k, v)]) := by simp [upV]
theorem upV_keys (m : List (Int × Int)) : (upV m).map (·.1) = m.map (·.1) := by simp [upV, Function.comp_def]
theorem upV_mem {m : List (Int × Int)} {k : Int} {x : Value} (h : (k, x) ∈ upV m) : ∃ v, x = .int .i64 v ∧ (k, v) ∈ m := by
  obtain ⟨p, hp, e⟩ := List.mem_map.1 h
  simp at e
  obtain ⟨rfl, rfl⟩ := e
  exact ⟨p.2, rfl, hp⟩
/-- Who tells whom, in memory. -/
abbrev UpAt (w : World) (g : Nat) (m : List (Int × Int)) : Prop := MpK kvI w g (upV m)
theorem zero_int (w : World) : (zeroValue 3).run Tryz.prog w = .ok (.int .i64 0) w := by kernel_rfl
theorem UpAt.ask {w : World} {g : Nat} {m : List (Int × Int)} (h : UpAt w g m) (n : Int) :
    (Instr.lookup 38 (.map (some g)) (.int .i64 n) true).run Tryz.prog w = .ok (.tuple #[.int .i64 ((lookI m n).getD 0), .bool (lookI m n).isSome]) w ∧
    (Instr.lookup 38 (.map (some g)) (.int .i64 n) false).run Tryz.prog w = .ok (.int .i64 ((lookI m n).getD 0)) w := by
  cases hq : lookI m n with
  | none =>
    have := h.look_none (P := Tryz.prog) key_int Tryz.underlying38 (zero_int w) (k := n) (by rw [look_upV, hq]; rfl)
    simpa [kvI] using this
  | some v =>
    have := h.look_some (P := Tryz.prog) key_int Tryz.underlying38 (k := n) (v := .int .i64 v) (by rw [look_upV, hq]; rfl)
    simpa [kvI] using this
theorem UpAt.below {w w' : World} {g : Nat} {m : List (Int × Int)} (h : UpAt w g m) (hb : Below w.heap.size w w') : UpAt w' g m := h.of_block (hb.block _ h.lt)

theorem tells_any (root : Int) (g : Nat) (m : List (Int × Int)) (n : Int) (w : World) (h : UpAt w g m) :
    Calls Tryz.prog 28 #[.agg #[.int .i64 root, .map (some g)], .int .i64 n] w fun e w' => e = .returned (.bool (lookI m n).isSome) ∧ Below w.heap.size w w' := by
  obtain ⟨W, hW⟩ : ∃ W, W = w.alloc (.cells #[.int .i64 root, .map (some g)] 40) := ⟨_, rfl⟩
  have hk := ((h.below (below_one _ _)).ask (w := w.alloc (.cells #[.int .i64 root, .map (some g)] 40)) n).1
  clear h
  generalize (lookI m n).getD 0 = v at hk
  generalize (lookI m n).isSome = b at hk ⊢
  go_enter Tryz.func28, Tryz.ntmps28
  go_wp2
  go_ret
  exact ⟨rfl, below_one _ _⟩
set_option maxHeartbeats 1000000 in
theorem depth_any (t : Tr) (g : Nat) (n : Int) (w : World) (h : UpAt w g t.up) (hl : t.up.length ≤ 100000) :
    Calls Tryz.prog 17 #[.agg #[.int .i64 t.root, .map (some g)], .int .i64 n] w fun e w' => e = .returned (.int .i64 (t.depth n)) ∧ Below w.heap.size w w' := by
  obtain ⟨root, up⟩ := t
  simp only at h hl
  obtain ⟨q, hq⟩ : ∃ q, q = w.heap.size := ⟨_, rfl⟩
  obtain ⟨W, hW⟩ : ∃ W, W = w.alloc (.cells #[.int .i64 root, .map (some g)] 40) := ⟨_, rfl⟩
  have hbW : Below w.heap.size w W := by rw [hW]; exact below_one _ _
  have c0 : W.cell? ⟨q, 0, none⟩ = some (.int .i64 root) := by rw [hW, hq]; exact World.cell?_alloc_new ..
  have c1 : W.cell? ⟨q, 1, none⟩ = some (.map (some g)) := by rw [hW, hq]; simp
  have H : Hid (UpAt W g up ∧ Below w.heap.size w W) := ⟨h.below hbW, hbW⟩
  have hlen := fun ty => H.out.1.len (P := Tryz.prog) Tryz.underlying38 ty
  have hul : (upV up).length = up.length := by simp [upV]
  rw [hul] at hlen
  clear hul h hbW
  go_enter Tryz.func17, Tryz.ntmps17
  by_cases hr : root = -1
  · have e1 : (root == -1) = true := by simpa using hr
    have HD : Hid ((⟨root, up⟩ : Tr).depth n = -1) := by show Tr.depth _ n = -1; unfold Tr.depth; rw [if_pos hr]
    clear hr
    go_upto_region 1 with fail
    rw [← hW]
    try rw [← hq]
    clear hW hq
    go_wp2
    go_ret
    exact ⟨ret_i HD.out.symm, H.out.2⟩
  · have e1 : (root == -1) = false := by simpa using hr
    have HD : Hid ((⟨root, up⟩ : Tr).depth n = (⟨root, up⟩ : Tr).dep (up.length + 1) 0 n) := by show Tr.depth _ n = _; unfold Tr.depth; rw [if_neg hr]
    clear hr
    generalize (⟨root, up⟩ : Tr).depth n = dd at HD ⊢
    go_upto_region 1 with fail
    rw [← hW]
    try rw [← hq]
    clear hW hq
    go_wp2
    clear hlen
    go_loopg [1, 13] (up.length + 1) (fun kx nv s wr => ∃ (j : Nat) (m : Int), s = .int .i64 j ∧ nv = .int .i64 m ∧ j ≤ up.length + 1 ∧ kx = up.length + 1 - j ∧ Hid (Below W.heap.size W wr ∧ dd = (⟨root, up⟩ : Tr).dep (up.length + 1 - j) j m))
    case atStart => exact ⟨0, n, rfl, rfl, Nat.zero_le _, rfl, ⟨Below.refl _ _, HD.out⟩⟩
    case round =>
      obtain ⟨j, m, rfl, rfl, hj, rfl, HB⟩ := hrel
      have d0 := cell_grown c0 HB.out.1
      have d1 := cell_grown c1 HB.out.1
      by_cases hlt : j < up.length + 1
      · have hltI : (j : Int) < (up.length : Int) + 1 := by omega
        have HS : Hid (dd = if m = root then (j : Int) else match lookI up m with | none => -1 | some v => (⟨root, up⟩ : Tr).dep (up.length + 1 - (j + 1)) (j + 1) v) := by
          have := HB.out.2
          rw [show up.length + 1 - j = (up.length + 1 - (j + 1)) + 1 by omega] at this
          exact this
        by_cases hm : m = root
        · have e2 : (m == root) = true := by simpa using hm
          have HE : Hid (dd = (j : Int)) := by have := HS.out; rw [if_pos hm] at this; exact this
          clear hm
          go_wp2
          go_ret
          exact ⟨ret_i HE.out.symm, H.out.2.trans (HB.out.1.mono H.out.2.size)⟩
        · have e2 : (m == root) = false := by simpa using hm
          have HU : Hid (UpAt wr g up) := H.out.1.below HB.out.1
          have HS2 := HS.out
          rw [if_neg hm] at HS2
          clear hm
          cases hv : lookI up m with
          | none =>
            rw [hv] at HS2
            have HE : Hid (dd = -1 ∧ lookI up m = none) := ⟨HS2, hv⟩
            clear HS2 hv
            go_wp2_with (go_at_call 28; refine (tells_any root g up m _ HU.out).mono ?_; rintro e w2 ⟨rfl, b2⟩; rw [HE.out.2])
            go_ret
            exact ⟨ret_i HE.out.1.symm, (H.out.2.trans (HB.out.1.mono H.out.2.size)).trans (b2.mono (Nat.le_trans H.out.2.size HB.out.1.size))⟩
          | some v =>
            rw [hv] at HS2
            have HE : Hid (dd = (⟨root, up⟩ : Tr).dep (up.length + 1 - (j + 1)) (j + 1) v ∧ lookI up m = some v) := ⟨HS2, hv⟩
            clear HS2 hv
            go_wp2_with fail
            refine (tells_any root g up m _ HU.out).mono ?_
            rintro e w2 ⟨rfl, b2⟩
            rw [HE.out.2]
            have f0 := cell_grown d0 b2
            have f1 := cell_grown d1 b2
            have HB2 : Hid (Below W.heap.size W w2) := HB.out.1.trans (b2.mono HB.out.1.size)
            have hk := ((H.out.1.below HB2.out).ask m).2
            rw [HE.out.2] at hk
            clear b2 d0 d1
            go_wp2
            go_roundg (up.length + 1 - (j + 1))
            case measure => omega
            case rel => exact ⟨j + 1, v, by go_num, rfl, by omega, rfl, ⟨HB2.out, HE.out.1⟩⟩
      · obtain rfl : j = up.length + 1 := by omega
        have hltI : ¬ ((up.length + 1 : Nat) : Int) < (up.length : Int) + 1 := by omega
        have HE : Hid (dd = -1) := by have := HB.out.2; simp [Tr.dep] at this; exact this
        go_wp2
        go_ret
        exact ⟨ret_i HE.out.symm, H.out.2.trans (HB.out.1.mono H.out.2.size)⟩
end Go.Proofs.YtkkkldglceiiiaaGreat
