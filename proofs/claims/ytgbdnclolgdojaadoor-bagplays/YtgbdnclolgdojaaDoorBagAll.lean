/- bag.Copy whole; slices.Clone, bag.All; errors.Is of two like codes. -/
import Derived.Test.YtgbdnclolgdojaaDoorBagTake2
import Derived.LaidEql
import Derived.Lib.SliceRun
import Derived.Stop.Asserts
import Derived.RowKitTokens
namespace Go.Proofs.YtgbdnclolgdojaaDoor
open Go.ChangeShapes Go.WideShapes Go.ChangeAt Go.RowKit Go.Extern.Stop Go.Stop Go.Extern
set_option linter.unusedVariables false

theorem copy_ok (B p : Nat) (v : Value) (g : Bg) (id : Int) (k : Nat) (w : World) (h : BagAt B w p v g) (hB : B ≤ w.heap.size) (hok : g.ok) (hk : k < g.ps.length) (hid : (g.ps.getD k pk0).id = id) (hg : g.ps.length < 4000) (hl : g.last < 1000000000000) :
    Calls Tryd.prog 14 #[.pointer (some ⟨p, 0, none⟩), .int .i64 id] w
      fun e w' => e = .returned (.tuple #[.int .i64 (g.last + 1), .nilIface]) ∧ ∃ v', BagAt B w' p v' (g.add (g.ps.getD k pk0).src (g.ps.getD k pk0).dst (g.ps.getD k pk0).s) ∧ Kept w w' p v v' := by
  have hs := (hok.all _ (getD_mem g.ps k hk)).s
  refine (copy_hit B p v g id k w h hok hk hid (R := fun t W w' => t = .tuple #[.int .i64 (g.last + 1), .nilIface] ∧ ∃ v', BagAt B w' p v' (g.add (g.ps.getD k pk0).src (g.ps.getD k pk0).dst (g.ps.getD k pk0).s) ∧ Kept W w' p v v') ?_).mono ?_
  · intro W hW hz
    refine (send_ok B p v g _ _ _ W hW (by omega) hs hg hok.lo hl).mono ?_
    rintro e w' ⟨rfl, hx⟩
    exact ⟨_, _, rfl, rfl, hx⟩
  · rintro e w' ⟨W, x, y, rfl, hb, ht, v', hv, hK⟩
    rw [ht]
    exact ⟨rfl, v', hv, (Kept.ofBelow hb).trans hK⟩
theorem copy_full (B p : Nat) (v : Value) (g : Bg) (id : Int) (k : Nat) (w : World) (h : BagAt B w p v g) (hok : g.ok) (hk : k < g.ps.length) (hid : (g.ps.getD k pk0).id = id) (hg : 4000 ≤ g.ps.length) :
    Calls Tryd.prog 14 #[.pointer (some ⟨p, 0, none⟩), .int .i64 id] w
      fun e w' => e = .returned (.tuple #[.int .i64 0, .iface 38 (.int .i64 4)]) ∧ Below w.heap.size w w' := by
  have hs := (hok.all _ (getD_mem g.ps k hk)).s
  refine (copy_hit B p v g id k w h hok hk hid (R := fun t W w' => t = .tuple #[.int .i64 0, .iface 38 (.int .i64 4)] ∧ w' = W) ?_).mono ?_
  · intro W hW hz
    refine (send_full B p v g _ _ _ W hW hs hg).mono ?_
    rintro e w' ⟨rfl, rfl⟩
    exact ⟨_, _, rfl, rfl, rfl⟩
  · rintro e w' ⟨W, x, y, rfl, hb, ht, rfl⟩
    rw [ht]
    exact ⟨rfl, hb⟩

set_option maxRecDepth 100000 in
theorem clone_any (B : Nat) (v : Value) (ps : List Pk) (w : World) (hrow : w.ownsRow B 41 4 v ps.length (ps.flatMap Pk.cells)) (hlen : ps.length ≤ 4000) :
    Calls Tryd.prog 39 #[v] w
      fun e w' => ∃ v', e = .returned v' ∧ w'.ownsRow w.heap.size 41 4 v' ps.length (ps.flatMap Pk.cells) ∧ Below w.heap.size w w' := by
  obtain ⟨i0, hi, hz0, hz1, hz2⟩ := info_parts Tryd.infoPk
  have hx := hrow.1
  have hnil : ∀ (w : World) (a : Option Addr) (n c n' c' : Nat), (binOp .eql 23 (.slice a n c) (.slice none n' c')).run Tryd.prog w = .ok (.bool a.isNone) w := fun w a n c n' c' => Lib.run_eql_slice_nil w _ _ a n c n' c' Tryd.underlying23
  have hone : ∀ u ∈ ps.flatMap Pk.cells, u.oneCell' = true := by
    intro u hu
    obtain ⟨q, _, hq⟩ := List.mem_flatMap.1 hu
    simp only [Pk.cells, List.mem_cons, List.not_mem_nil, or_false] at hq
    rcases hq with rfl | rfl | rfl | rfl <;> rfl
  rcases hrow.2 with ⟨rfl, h0⟩ | ⟨gg, cap, cur, rfl, hB, hg, hnc, hcm, hcs, htake⟩
  · have hp : ps = [] := List.eq_nil_of_length_eq_zero h0
    subst hp
    go_enter Tryd.func39, Tryd.ntmps39
    go_wp2
    go_ret
    exact ⟨_, rfl, World.ownsRow_nil _ _ _ _, Below.refl _ _⟩
  · have hcells : ∀ j u, (ps.flatMap Pk.cells)[j]? = some u → w.cell? ((⟨gg, 0, none⟩ : Addr).add j) = some u := hrow.cells (g := gg) rfl
    have hglt := lt_of_block hg
    have HS : Hid (Src Tryd.prog 4 23 (.slice (some ⟨gg, 0, none⟩) ps.length cap) ps.length (ps.flatMap Pk.cells) (w.alloc (.cells #[] 41))) :=
      Src.ofSlice _ Tryd.underlying23 _ _ _ _ hx (fun j u hu => by
        have := hcells j u hu
        rw [Addr.add_lit, Nat.zero_add] at this ⊢
        exact (((Below.refl w.heap.size w).alloc (Nat.le_refl _) (.cells #[] 41)).cell (p := ⟨gg, j, none⟩) hglt).trans this) hone
    have HO : Hid ((w.alloc (.cells #[] 41)).ownsRow w.heap.size 41 4 (.slice (some ⟨w.heap.size, 0, none⟩) 0 0) 0 []) :=
      ⟨rfl, .inr ⟨w.heap.size, 0, #[], rfl, Nat.le_refl _, heap_alloc_new w _, Nat.le_refl _, Nat.zero_le _, rfl, rfl⟩⟩
    clear hcells hone hg htake hcs hrow
    go_enter Tryd.func39, Tryd.ntmps39
    go_wp2_with (at_builtin; refine wpList_own_append4 _ rfl _ _ 23 23 rfl w.heap.size 41 i0 _ 40 Tryd.underlying23 hi hz0 hz1 hz2 rfl _ _ _ rfl HO.out _ ps.length (ps.flatMap Pk.cells) rfl HS.out ?c3 ?c4 ?c5 ?_)
    case c3 => unfold maxLen; omega
    case c4 => omega
    case c5 => simp
    intro v' w1 ha
    have HA : Hid _ := ha
    obtain ⟨a', c', hv'⟩ := ha.shape
    subst hv'
    clear ha
    go_wp2
    go_ret
    refine ⟨_, rfl, by simpa using HA.out.row, ?_⟩
    have hg := HA.out.grown
    exact ((Below.refl _ _).alloc (Nat.le_refl _) _).trans ⟨hg.os, hg.tape, hg.output, hg.size, fun k hk => hg.block k (by simp; omega) (by simp [Value.ownBlock]; omega)⟩

theorem all_any (B p : Nat) (v : Value) (g : Bg) (w : World) (h : BagAt B w p v g) (hlen : g.ps.length ≤ 4000) :
    Calls Tryd.prog 18 #[.pointer (some ⟨p, 0, none⟩)] w
      fun e w' => ∃ v', e = .returned v' ∧ w'.ownsRow w.heap.size 41 4 v' g.ps.length (g.ps.flatMap Pk.cells) ∧ Below w.heap.size w w' := by
  have h0 := two_c0 h.box
  have hr := h.row
  go_enter Tryd.func18, Tryd.ntmps18
  go_wp2_with fail
  refine (clone_any B v g.ps _ hr hlen).mono ?_
  rintro e w1 ⟨v', rfl, hx⟩
  have HX : Hid _ := hx
  clear hx hr h
  go_wp2
  go_ret
  exact ⟨_, rfl, HX.out⟩

theorem type_callB (v : Value) (w : World) : Sem.run Tryd.prog (callFunc 35 #[.iface 38 v]) w = .ok (.value (.iface 122 (.agg #[.pointer (some ⟨1, 38, none⟩)]))) w := by
  rw [@run_callFunc_extern Tryd.prog 35 _ Extern.ReflectliteType.typeOf Tryd.func35 (by kernel_rfl) (by kernel_rfl) (by kernel_rfl) (by kernel_rfl)]
  kernel_rfl
theorem comp_callB (w : World) : Sem.run Tryd.prog (callFunc 96 #[.agg #[.pointer (some ⟨1, 38, none⟩)]]) w = .ok (.value (.bool true)) w := by
  rw [@run_callFunc_extern Tryd.prog 96 _ (Extern.ReflectliteType.method fun t => do Go.Extern.Rtype.noPackHeld "Comparable" t; pure (.bool (← typeInfo t).comparable)) Tryd.func96 (by kernel_rfl) (by kernel_rfl) (by kernel_rfl) (by kernel_rfl)]
  kernel_rfl
theorem comp_methodB (v : Value) (w : World) : (Go.method 288 122 v "Comparable").run Tryd.prog w = .ok (96, v) w := by kernel_rfl
theorem code_compB : (Tryd.prog.info? 38).map (·.comparable) = some true := by kernel_rfl
/-- Two codes as errors are equal as their numbers are. -/
theorem eql_codesB (a b : Int) (w : World) : (binOp .eql 33 (.iface 38 (.int .i64 a)) (.iface 38 (.int .i64 b))).run Tryd.prog w = .ok (.bool (a == b)) w := by
  obtain ⟨i, hi, hc⟩ := Option.map_eq_some_iff.1 code_compB
  have h : ∀ d : Nat, (Op.equalIn (d + 2) 33 (.iface 38 (.int .i64 a)) (.iface 38 (.int .i64 b))).run Tryd.prog w = .ok (a == b) w := fun d => by
    simp [Op.equalIn, run_underlying Tryd.underlying33, run_underlying Tryd.underlying38, typeInfo, hi, hc]
  simp only [binOp]
  simp [Op.equal, Op.maxDepth, h 9998]

set_option maxRecDepth 100000 in
theorem is_same (c : Int) (w : World) :
    Calls Tryd.prog 13 #[.iface 38 (.int .i64 c), .iface 38 (.int .i64 c)] w fun e w' => e = .returned (.bool true) ∧ w' = w := by
  have h18 := type_callB
  have h45 := comp_callB
  have mC := comp_methodB
  have heq := eql_codesB c c w
  have hcc : (c == c) = true := by simp
  rw [hcc] at heq
  clear hcc
  go_enter Tryd.func13, Tryd.ntmps13
  go_wp2
  refine wp_loop_rounds 1 ?_
  rw [rounds_succ]
  go_wp2
  go_ret
  exact ⟨rfl, rfl⟩
end Go.Proofs.YtgbdnclolgdojaaDoor
