/- wigwaglaw06's awake and at; errors.Is and errors.As of a fault. -/
import Derived.Test.YtcckoncgfmbhiaaGreatDoorFilTry
import Derived.Test.YtcckoncgfmbhiaaGreatDoorAsFault
import Derived.Test.YtcckoncgfmbhiaaGreatDoorRowMath
namespace Go.Proofs.YtcckoncgfmbhiaaGreatDoor
open Go.ChangeShapes Go.WideShapes Go.ChangeAt Go.RowKit Go.Extern.Stop Go.Stop Go.Extern
set_option linter.unusedVariables false

theorem no_is_fl (v : Value) (xT : TypeId) (w : World) : (Instr.typeAssert (.iface 60 v) xT 133 true).run Tryz.prog w = .ok (.tuple #[.nilIface, .bool false]) w := run_typeAssert_lacksB Tryz.underlying133 (by kernel_rfl) (by kernel_rfl) v xT w
theorem has_unwrapl (v : Value) (xT : TypeId) (w : World) : (Instr.typeAssert (.iface 60 v) xT 136 true).run Tryz.prog w = .ok (.tuple #[.iface 60 v, .bool true]) w := run_typeAssert_hasB Tryz.underlying136 (by kernel_rfl) v xT w
theorem unwrap_methodl (v : Value) (w : World) : (Go.method 313 60 v "Unwrap").run Tryz.prog w = .ok (131, v) w := by kernel_rfl
set_option maxRecDepth 100000 in
theorem is_faultl (g : Nat) (c at' : Int) (w : World) (h : FaultAt w g at' c) :
    Calls Tryz.prog 28 #[.iface 60 (.pointer (some ⟨g, 0, none⟩)), .iface 39 (.int .i64 c)] w fun e w' => e = .returned (.bool true) ∧ w' = w := by
  have hc2 : w.cell? ⟨g, 2, none⟩ = some (.iface 39 (.int .i64 c)) := by unfold FaultAt at h; simp [World.cell?, h]
  clear h
  have h28 := type_callL
  have h51 := comp_callL
  have mC := comp_methodL
  have nF := no_is_fl
  have uF := has_unwrapl
  have mU := unwrap_methodl
  have hty := run_eql_iface_types (P := Tryz.prog) 60 39 (.pointer (some ⟨g, 0, none⟩)) (.int .i64 c) Tryz.underlying31 (by decide) w
  have heq := eql_codesL c c w
  have hcc : (c == c) = true := by simp
  rw [hcc] at heq
  clear hcc
  go_enter Tryz.func28, Tryz.ntmps28
  go_wp2
  refine wp_loop_rounds 2 ?_
  rw [rounds_succ]
  go_wp2
  rw [rounds_succ]
  go_wp2
  go_ret
  exact ⟨rfl, rfl⟩
theorem FaultAt.below {w w' : World} {g : Nat} {a c : Int} (h : FaultAt w g a c) (hb : Below w.heap.size w w') : FaultAt w' g a c := (hb.block g (lt_of_block h)).trans h
/-- The fault that errors.As finds: it stands in the variable. -/
theorem as_fl (tb g : Nat) (w W : World) (hW : W = w.alloc (.cells #[.pointer none] 60)) (htb : tb = w.heap.size) (hg : ErrType w) :
    Calls Tryz.prog 29 #[.iface 60 (.pointer (some ⟨g, 0, none⟩)), .iface 77 (.pointer (some ⟨tb, 0, none⟩))] W fun e w' => e = .returned (.bool true) ∧ Below w.heap.size w w' ∧ w'.cell? ⟨tb, 0, none⟩ = some (.pointer (some ⟨g, 0, none⟩)) := by
  subst htb
  have hb : Below w.heap.size w W := by rw [hW]; exact (Below.refl _ _).alloc (Nat.le_refl _) _
  have hc : W.cell? ⟨w.heap.size, 0, none⟩ = some (.pointer none) := by rw [hW]; exact World.cell?_alloc_new ..
  have hf : W.frozen? ⟨w.heap.size, 0, none⟩ = false := by
    have : W.heap[w.heap.size]? = some (.cells #[.pointer none] 60 (0, 0)) := by rw [hW]; exact heap_alloc_new w _
    simp [World.frozen?, this]
  have hsz : W.heap.size = w.heap.size + 1 := by rw [hW]; simp
  refine (as_codeQ w.heap.size g _ W (hg.below hg.lt hb) hc hf).mono ?_
  rintro e w' ⟨rfl, hw'⟩
  refine ⟨rfl, ?_, ?_⟩
  · rw [hw']
    refine Below.setCell ?_ (by exact Nat.le_refl _) _
    exact (((hb.alloc (by omega) _).alloc (by simp; omega) _).alloc (by simp; omega) _).alloc (by simp; omega) _
  · rw [hw']
    refine World.cell?_setCell_same' _ _ _ ?_
    rw [World.cell?_alloc_lt _ _ ⟨w.heap.size, 0, none⟩ (by simp; omega), World.cell?_alloc_lt _ _ ⟨w.heap.size, 0, none⟩ (by simp; omega), World.cell?_alloc_lt _ _ ⟨w.heap.size, 0, none⟩ (by simp; omega), World.cell?_alloc_lt _ _ ⟨w.heap.size, 0, none⟩ (by simp; omega), hc]; rfl

/-- The predicates of a filter that was made lie where it shows. -/
theorem fil_cells {w : World} {B : Nat} {v : Value} {us : List Pl} (h : w.ownsRow B 74 5 v us.length (us.flatMap Pl.cells)) (h0 : 0 < us.length) (d : Pl) :
    ∃ g c, v = .slice (some ⟨g, 0, none⟩) us.length c ∧ us.length ≤ c ∧ B ≤ g ∧ g < w.heap.size ∧ ∀ i, i < us.length → ∀ j, j < 5 → w.cell? ⟨g, i * 5 + j, none⟩ = (us.getD i d).cells[j]? := by
  rcases h.2 with ⟨_, h1⟩ | ⟨g, cap, cur, hv, hb, hg, hnc, _⟩
  · omega
  · refine ⟨g, cap, hv, hnc, hb, lt_of_block hg, fun i hi j hj => ?_⟩
    have hx := flat_get Pl.cells 5 Pl.cells_len d us i j hi hj
    have hj' : j < (us.getD i d).cells.length := hj
    have e := h.cells (g := g) (by rw [hv]; rfl) (i * 5 + j) ((us.getD i d).cells[j]) (by rw [hx, List.getElem?_eq_getElem hj'])
    have ea : (⟨g, 0, none⟩ : Addr).add (i * 5 + j) = ⟨g, i * 5 + j, none⟩ := by unfold Addr.add; split <;> simp_all
    rw [ea] at e
    rw [e, List.getElem?_eq_getElem hj']
/-- What Parse answers, by the text's filter. -/
theorem ParsAns.ok {e : Ending} {w w' : World} {s : ByteArray} {ps : List Pl} {r : List UInt8} (h : ParsAns e w w' s) (hs : ¬ 300 < s.size) (hp : pars s.data.toList = .ok ps r) : ∃ v, e = .returned (.tuple #[v, .nilIface]) ∧ w'.ownsRow w.heap.size 74 5 v ps.length (ps.flatMap Pl.cells) := by
  unfold ParsAns at h; rw [if_neg hs, hp] at h; exact h
theorem ParsAns.fail {e : Ending} {w w' : World} {s : ByteArray} {b : Bool} {r : List UInt8} (h : ParsAns e w w' s) (hs : ¬ 300 < s.size) (hp : pars s.data.toList = .fail b r) : ∃ N, e = .returned (.tuple #[.slice none 0 0, .iface 60 (.pointer (some ⟨N, 0, none⟩))]) ∧ FaultAt w' N ((s.size - r.length : Nat) : Int) 2 := by
  unfold ParsAns at h; rw [if_neg hs, hp] at h; exact h

set_option maxRecDepth 100000 in
set_option maxHeartbeats 2000000 in
theorem awake6_any (w : World) (E : Env w) (hg : ErrType w) : Calls Tryz.prog 10 #[] w fun e w' => e = .returned (.bool true) ∧ Below w.heap.size w w' := by
  have HE : Hid (Env w ∧ ErrType w) := ⟨E, hg⟩
  clear E hg
  go_enter Tryz.func10, Tryz.ntmps10
  go_wp2_with fail
  refine (parse_any _ _ HE.out.1 (by decide)).mono ?_
  rintro e w1 ⟨hA, b1⟩
  obtain ⟨v, rfl, hrow⟩ := hA.ok (by decide) pars_try
  obtain ⟨g, c, hv, hgc, hBg, hglt, hcells⟩ := fil_cells hrow (by decide) ⟨[], 0, 0, 0, []⟩
  have k0 := hcells 0 (by decide) 3 (by decide)
  have k1 := hcells 1 (by decide) 1 (by decide)
  have k0' : w1.cell? ⟨g, 3, none⟩ = some (.int .i64 9) := k0
  have k1' : w1.cell? ⟨g, 6, none⟩ = some (.int .i64 3) := k1
  have HB1 : Hid (Below w.heap.size w w1) := b1
  have hv' : v = .slice (some ⟨g, 0, none⟩) 2 c := hv
  subst hv'
  clear hA b1 hrow hcells k0 k1 hv
  have hE1 := HE.out.1.below HB1.out HE.out.1.lt
  have HE1 : Hid (Env w1 ∧ ErrType w1) := ⟨hE1, HE.out.2.below HE.out.2.lt HB1.out⟩
  clear hE1
  go_wp2_with fail
  refine (parse_any _ _ HE1.out.1 (by decide)).mono ?_
  rintro e w2 ⟨hA, b2⟩
  obtain ⟨N, rfl, hF⟩ := hA.fail (by decide) pars_price
  have HF : Hid (FaultAt w2 N 5 2) := hF
  have q0 := (b2.cell (p := ⟨g, 3, none⟩) hglt).trans k0'
  have q1 := (b2.cell (p := ⟨g, 6, none⟩) hglt).trans k1'
  have hgl2 : g < w2.heap.size := Nat.lt_of_lt_of_le hglt b2.size
  have HB2 : Hid (Below w1.heap.size w1 w2) := b2
  have HT2 : Hid (ErrType w2) := HE1.out.2.below HE1.out.2.lt b2
  clear hA hF k0' k1' b2 hglt
  go_wp2_with fail
  refine (is_faultl N 2 5 _ (HF.out.below ((Below.refl _ _).alloc (Nat.le_refl _) _))).mono ?_
  rintro e w' ⟨rfl, hw'⟩
  subst w'
  go_wp2_with fail
  refine (as_fl _ N w2 _ rfl rfl HT2.out).mono ?_
  rintro e w3 ⟨rfl, b3, hc⟩
  have hF3 := HF.out.below b3
  have h1 : w3.cell? ⟨N, 1, none⟩ = some (.int .i64 5) := by unfold FaultAt at hF3; simp [World.cell?, hF3]
  have HB3 : Hid (Below w.heap.size w w3) := (HB1.out.trans (HB2.out.mono HB1.out.size)).trans (b3.mono (Nat.le_trans HB1.out.size HB2.out.size))
  clear b3 hF3 q0 q1
  go_wp2
  go_ret
  exact ⟨rfl, HB3.out⟩
end Go.Proofs.YtcckoncgfmbhiaaGreatDoor
