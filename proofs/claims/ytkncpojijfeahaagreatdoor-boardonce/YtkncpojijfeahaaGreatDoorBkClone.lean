/- slices.Clone of attributes and of values; slices.Equal of values. -/
import Derived.Test.YtkncpojijfeahaaGreatDoorJoinValName
import Derived.Test.YtkncpojijfeahaaGreatDoorJoinBkBase
import Derived.Lib.SliceRun
import Derived.Deep.LoopGhost
namespace Go.Proofs.YtkncpojijfeahaaGreatDoor
open Go.ChangeShapes Go.WideShapes Go.ChangeAt Go.RowKit Go.Deep
set_option linter.unusedVariables false

theorem cloned_below {w W w1 : World} {a : Option Addr} {g : Nat} {n c : Nat} (hg : W.grownBy w1 (Value.slice (some ⟨g, 0, none⟩) n c).ownBlock) (hW : Below w.heap.size w W) (hgw : w.heap.size ≤ g) : Below w.heap.size w w1 :=
  hW.trans ⟨hg.os, hg.tape, hg.output, hg.size, fun k hk => hg.block k (Nat.lt_of_lt_of_le hk hW.size) (fun e => by simp [Value.ownBlock] at e; omega)⟩

/-- Rows of whatever elements as a source. -/
theorem src_rows {α : Type} (enc : α → List Value) (k : Nat) (hk : ∀ a, (enc a).length = k) (d : α) (h0 : 0 < k) {w : World} {T e : TypeId} (hu : Tryz.prog.underlying T = some (.slice e)) (l : List α) (x : Addr) (c : Nat)
    (hc : 0 < l.length → ∃ g, x = ⟨g, 0, none⟩ ∧ ∀ i, i < l.length → ∀ j, j < k → w.cell? ⟨g, i * k + j, none⟩ = (enc (l.getD i d))[j]?) (h1 : ∀ a, ∀ u ∈ enc a, u.oneCell' = true) : Src Tryz.prog k T (.slice (some x) l.length c) l.length (l.flatMap enc) w := by
  refine Src.ofSlice _ hu _ _ _ _ (flat_len enc k hk l) (fun m u hm => ?_) (fun u hm => ?_)
  · have hlt : m < (l.flatMap enc).length := (List.getElem?_eq_some_iff.1 hm).1
    rw [flat_len enc k hk] at hlt
    have hl0 : 0 < l.length := by
      rcases Nat.eq_zero_or_pos l.length with q | q
      · rw [q] at hlt; omega
      · exact q
    obtain ⟨g, rfl, hj⟩ := hc hl0
    have hi : m / k < l.length := (Nat.div_lt_iff_lt_mul h0).2 hlt
    have hr : m % k < k := Nat.mod_lt _ h0
    have e2 : m / k * k + m % k = m := by rw [Nat.mul_comm]; exact Nat.div_add_mod m k
    rw [Addr.add_lit, Nat.zero_add]
    have q := hj (m / k) hi (m % k) hr
    rw [e2] at q
    rw [q, ← flat_get enc k hk d l (m / k) (m % k) hi hr, e2]; exact hm
  · obtain ⟨q, _, hq⟩ := List.mem_flatMap.1 hm
    exact h1 q u hq
theorem own_empty (w : World) (e : TypeId) (k : Nat) : (w.alloc (.cells #[] e)).ownsRow w.heap.size e k (.slice (some ⟨w.heap.size, 0, none⟩) 0 0) 0 [] := ⟨by simp, .inr ⟨w.heap.size, 0, #[], rfl, Nat.le_refl _, heap_alloc_new w _, Nat.le_refl _, Nat.zero_le _, by simp, by simp⟩⟩

set_option maxRecDepth 100000 in
theorem clone_at (v : Value) (az : List At) (w : World) (h : AtIn w v az) (hl : az.length ≤ 1000) :
    Calls Tryz.prog 23 #[v] w fun e w' => ∃ v', e = .returned v' ∧ AtIn w' v' az ∧ Below w.heap.size w w' := by
  obtain ⟨i0, hi, hz0, hz1, hz2⟩ := info_parts Tryz.infoAt
  have hnil : ∀ (w : World) (a : Option Addr) (n c n' c' : Nat), (binOp .eql 23 (.slice a n c) (.slice none n' c')).run Tryz.prog w = .ok (.bool a.isNone) w := fun w a n c n' c' => Lib.run_eql_slice_nil w _ _ a n c n' c' Tryz.underlying23
  obtain ⟨a, c, rfl, hh⟩ := h.shape
  cases a with
  | none =>
    have h0 : az = [] := by
      cases az with
      | nil => rfl
      | cons x l => obtain ⟨g, e, _⟩ := hh (by simp); cases e
    subst h0
    go_enter Tryz.func23, Tryz.ntmps23
    go_wp2
    go_ret
    exact ⟨_, rfl, ⟨none, 0, rfl, fun h => by simp at h⟩, Below.refl _ _⟩
  | some x =>
    have HS : Hid (Src Tryz.prog 4 23 (.slice (some x) az.length c) az.length (az.flatMap At.cells) (w.alloc (.cells #[] 74))) := by
      refine src_rows At.cells 4 At.cells_len at0 (by omega) Tryz.underlying23 az x c (fun h0 => ?_) (fun a u hu => ?_)
      · obtain ⟨g, hx, hg, hc, hj⟩ := hh h0
        cases hx
        refine ⟨g, rfl, fun i hi j hj4 => ?_⟩
        have q := hj i hi
        rw [(below1 w (.cells #[] 74)).cell (p := ⟨g, i * 4 + j, none⟩) hg]
        rcases (show j = 0 ∨ j = 1 ∨ j = 2 ∨ j = 3 by omega) with rfl | rfl | rfl | rfl
        · exact q.1
        · exact q.2.1
        · exact q.2.2.1
        · exact q.2.2.2
      · simp only [At.cells, List.mem_cons, List.not_mem_nil, or_false] at hu
        rcases hu with rfl | rfl | rfl | rfl <;> rfl
    have HO : Hid ((w.alloc (.cells #[] 74)).ownsRow w.heap.size 74 4 (.slice (some ⟨w.heap.size, 0, none⟩) 0 0) 0 []) := own_empty w _ _
    clear hh h
    obtain ⟨n, hn⟩ : ∃ n, n = az.length := ⟨_, rfl⟩
    rw [← hn] at HS hl ⊢
    have HN : Hid (n = az.length) := hn
    clear hn
    go_enter Tryz.func23, Tryz.ntmps23
    go_wp2_with (at_builtin; refine wpList_own_append4 _ rfl _ _ 23 23 rfl w.heap.size 74 i0 _ 40 Tryz.underlying23 hi hz0 hz1 hz2 rfl _ _ _ rfl HO.out _ n (az.flatMap At.cells) rfl HS.out ?c3 ?c4 ?c5 ?_)
    case c3 => unfold maxLen; omega
    case c4 => omega
    case c5 => simp
    intro v' w1 ha
    have HA : Hid _ := ha
    obtain ⟨a', c', hv'⟩ := ha.shape
    subst hv'
    clear ha
    go_wp2
    go_ret
    have hr := HA.out.row
    refine ⟨.slice a' n c', by simp, ?_, cloned_below (a := none) HA.out.grown (below1 _ _) (Nat.le_refl _)⟩
    rw [HN.out] at hr ⊢
    exact AtIn.ofOwn hr

set_option maxRecDepth 100000 in
theorem clone_vl (v : Value) (az : List Vl) (w : World) (h : VlIn w v az) (hl : az.length ≤ 1000) :
    Calls Tryz.prog 26 #[v] w fun e w' => ∃ v', e = .returned v' ∧ VlIn w' v' az ∧ Below w.heap.size w w' := by
  obtain ⟨i0, hi, hz0, hz1, hz2⟩ := info_parts Tryz.infoVl
  have hnil : ∀ (w : World) (a : Option Addr) (n c n' c' : Nat), (binOp .eql 25 (.slice a n c) (.slice none n' c')).run Tryz.prog w = .ok (.bool a.isNone) w := fun w a n c n' c' => Lib.run_eql_slice_nil w _ _ a n c n' c' Tryz.underlying25
  obtain ⟨a, c, rfl, hh⟩ := h.shape
  cases a with
  | none =>
    have h0 : az = [] := by
      cases az with
      | nil => rfl
      | cons x l => obtain ⟨g, e, _⟩ := hh (by simp); cases e
    subst h0
    go_enter Tryz.func26, Tryz.ntmps26
    go_wp2
    go_ret
    exact ⟨_, rfl, ⟨none, 0, rfl, fun h => by simp at h⟩, Below.refl _ _⟩
  | some x =>
    have HS : Hid (Src Tryz.prog 2 25 (.slice (some x) az.length c) az.length (az.flatMap Vl.cells) (w.alloc (.cells #[] 77))) := by
      refine src_rows Vl.cells 2 Vl.cells_len vl0 (by omega) Tryz.underlying25 az x c (fun h0 => ?_) (fun a u hu => ?_)
      · obtain ⟨g, hx, hg, hc, hj⟩ := hh h0
        cases hx
        refine ⟨g, rfl, fun i hi j hj4 => ?_⟩
        have q := hj i hi
        rw [(below1 w (.cells #[] 77)).cell (p := ⟨g, i * 2 + j, none⟩) hg]
        rcases (show j = 0 ∨ j = 1 by omega) with rfl | rfl
        · exact q.1
        · exact q.2
      · simp only [Vl.cells, List.mem_cons, List.not_mem_nil, or_false] at hu
        rcases hu with rfl | rfl <;> rfl
    have HO : Hid ((w.alloc (.cells #[] 77)).ownsRow w.heap.size 77 2 (.slice (some ⟨w.heap.size, 0, none⟩) 0 0) 0 []) := own_empty w _ _
    clear hh h
    obtain ⟨n, hn⟩ : ∃ n, n = az.length := ⟨_, rfl⟩
    rw [← hn] at HS hl ⊢
    have HN : Hid (n = az.length) := hn
    clear hn
    go_enter Tryz.func26, Tryz.ntmps26
    go_wp2_with (at_builtin; refine wpList_own_append2 _ rfl _ _ 25 25 rfl w.heap.size 77 i0 _ 24 Tryz.underlying25 hi hz0 hz1 hz2 rfl _ _ _ rfl HO.out _ n (az.flatMap Vl.cells) rfl HS.out ?c3 ?c4 ?c5 ?_)
    case c3 => unfold maxLen; omega
    case c4 => omega
    case c5 => simp
    intro v' w1 ha
    have HA : Hid _ := ha
    obtain ⟨a', c', hv'⟩ := ha.shape
    subst hv'
    clear ha
    go_wp2
    go_ret
    have hr := HA.out.row
    refine ⟨.slice a' n c', by simp, ?_, cloned_below (a := none) HA.out.grown (below1 _ _) (Nat.le_refl _)⟩
    rw [HN.out] at hr ⊢
    exact VlIn.ofOwn hr

theorem vl_ext {a b : Vl} (h1 : a.num = b.num) (h2 : a.str = b.str) : a = b := by cases a; cases b; simp_all
theorem vls_ext {xs ys : List Vl} (hl : xs.length = ys.length) (h : ∀ j, j < xs.length → xs.getD j vl0 = ys.getD j vl0) : xs = ys := by
  refine List.ext_getElem hl (fun i h1 h2 => ?_)
  have := h i h1
  simpa [h1, h2] using this

set_option maxRecDepth 100000 in
set_option maxHeartbeats 2000000 in
theorem eqvl_any (v u : Value) (xs ys : List Vl) (w : World) (h : VlIn w v xs) (h2 : VlIn w u ys) (hl : xs.length ≤ 1000) (hl2 : ys.length ≤ 1000) :
    Calls Tryz.prog 54 #[v, u] w fun e w' => Says e (xs = ys) ∧ Below w.heap.size w w' := by
  obtain ⟨a, c, rfl, _⟩ := h.shape
  obtain ⟨b, d, rfl, _⟩ := h2.shape
  have H : Hid (VlIn w (.slice a xs.length c) xs ∧ VlIn w (.slice b ys.length d) ys) := ⟨h, h2⟩
  clear h h2
  by_cases hq : xs.length = ys.length
  · have HQ : Hid (xs.length = ys.length) := hq
    rw [← hq] at H ⊢
    obtain ⟨n, hn⟩ : ∃ n, n = xs.length := ⟨_, rfl⟩
    rw [← hn] at H hl ⊢
    have HN : Hid (n = xs.length) := hn
    clear hn hq hl2
    have nnn : ((n : Int) != (n : Int)) = false := by simp
    go_enter Tryz.func54, Tryz.ntmps54
    go_wp2
    go_loopg [13] n (fun kx s wr => ∃ k : Nat, s = .int .i64 k ∧ k ≤ n ∧ kx = n - k ∧ Hid (Below w.heap.size w wr ∧ ∀ j, j < k → xs.getD j vl0 = ys.getD j vl0))
    case atStart => exact ⟨0, rfl, Nat.zero_le _, rfl, ⟨Below.refl _ _, fun j hj => absurd hj (Nat.not_lt_zero _)⟩⟩
    case round =>
      obtain ⟨k, rfl, hk, rfl, HB⟩ := hrel
      by_cases hlt : k < n
      · have hkI : (0 : Int) ≤ (k : Int) ∧ (k : Int) < (n : Int) := by omega
        have hkx : k < xs.length := by have := HN.out; omega
        have hky : k < ys.length := by have := HQ.out; omega
        obtain ⟨g, rfl, hg, hc, c0, c1⟩ := (H.out.1.below HB.out.1).row k hkx
        obtain ⟨g', rfl, hg', hc', d0, d1⟩ := (H.out.2.below HB.out.1).row k hky
        have HE : Hid ((xs.getD k vl0).num = (ys.getD k vl0).num → (xs.getD k vl0).str = (ys.getD k vl0).str → ∀ j, j < k + 1 → xs.getD j vl0 = ys.getD j vl0) := fun e1 e2 j hj => by
          by_cases e : j = k
          · subst e; exact vl_ext e1 e2
          · exact HB.out.2 j (by omega)
        have HX : Hid (xs = ys → (xs.getD k vl0).num = (ys.getD k vl0).num ∧ (xs.getD k vl0).str = (ys.getD k vl0).str) := fun e => by rw [e]; exact ⟨rfl, rfl⟩
        generalize (xs.getD k vl0).num = n1 at c0 HE HX
        generalize (xs.getD k vl0).str = s1 at c1 HE HX
        generalize (ys.getD k vl0).num = n2 at d0 HE HX
        generalize (ys.getD k vl0).str = s2 at d1 HE HX
        by_cases e1 : n1 = n2
        · subst e1
          have b1 : (n1 == n1) = true := by simp
          by_cases e2 : s1 = s2
          · subst e2
            have b2 : (s1.toList == s1.toList) = true := beq_self_eq_true _
            go_wp2_with (go_quiet (fail))
            go_roundg (n - (k + 1))
            case measure => omega
            case rel => exact ⟨k + 1, by go_num, by omega, rfl, ⟨HB.out.1.trans ⟨rfl, rfl, rfl, Nat.le_refl _, fun _ _ => rfl⟩, HE.out (by simp) (by simp)⟩⟩
          · have b2 : (s1.toList == s2.toList) = false := by simpa [toList_inj] using e2
            have HX2 : Hid (¬ xs = ys) := fun e => e2 (HX.out e).2
            clear e2
            go_wp2_with (go_quiet (fail))
            go_ret
            exact ⟨Says.no HX2.out, HB.out.1.trans ⟨rfl, rfl, rfl, Nat.le_refl _, fun _ _ => rfl⟩⟩
        · have b1 : (n1 == n2) = false := by simpa using e1
          have HX2 : Hid (¬ xs = ys) := fun e => e1 (HX.out e).1
          clear e1
          go_wp2_with (go_quiet (fail))
          go_ret
          exact ⟨Says.no HX2.out, HB.out.1.trans ⟨rfl, rfl, rfl, Nat.le_refl _, fun _ _ => rfl⟩⟩
      · obtain rfl : k = n := by omega
        go_wp2
        go_ret
        exact ⟨Says.yes (vls_ext HQ.out (fun j hj => HB.out.2 j (by have := HN.out; omega))), HB.out.1⟩
  · have hqI : ((xs.length : Int) != (ys.length : Int)) = true := by simp; omega
    go_enter Tryz.func54, Tryz.ntmps54
    go_wp2
    go_ret
    exact ⟨Says.no (fun e => hq (by rw [e])), Below.refl _ _⟩
end Go.Proofs.YtkncpojijfeahaaGreatDoor
