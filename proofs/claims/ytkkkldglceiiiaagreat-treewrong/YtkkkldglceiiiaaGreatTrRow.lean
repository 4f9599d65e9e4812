/- tree.Tree.Nodes, Children: going over who tells whom, a row of one's own beside it. -/
import Derived.Test.YtkkkldglceiiiaaGreatTrTree
import Derived.Test.YtkkkldglceiiiaaGreatTrSort
import Derived.Deep.AppendLies
namespace Go.Proofs.YtkkkldglceiiiaaGreat
open Go.ChangeShapes Go.WideShapes Go.ChangeAt Go.RowKit Go.Deep
open Go.ChangeMaps (setBlock)
set_option linter.unusedVariables false

/-- A slice of ints that is an answer. -/
structure SlI (w : World) (v : Value) (l : List Int) : Prop where
  ex : ∃ a c, v = .slice a l.length c ∧ InIn w a l.length l ∧ (a = none → l.length = 0) ∧ l.length ≤ c ∧ c ≤ 9223372036854775807
theorem SlI.below {w w' : World} {v : Value} {l : List Int} (h : SlI w v l) (hb : Below w.heap.size w w') : SlI w' v l := by
  obtain ⟨a, c, h1, h2, h3⟩ := h.ex
  exact ⟨a, c, h1, h2.below (Nat.le_refl _) hb, h3⟩
/-- On the way: D came already; L lies in the row. -/
structure NdSt (W wr : World) (B g r : Nat) (m : List (Int × Int)) (P : Int → Bool) (l0 D L : List Int) (v : Value) : Prop where
  it : ItK kvI wr g r (upV m) D
  bel : Below W.heap.size W wr
  lo : W.heap.size ≤ r ∧ W.heap.size ≤ B
  row : wr.ownsRow B 3 1 v L.length (L.map cellI)
  off : ∀ x, v.ownBlock = some x → x ≠ r
  dn : D.Nodup
  dm : ∀ k ∈ D, k ∈ m.map (·.1)
  ls : L = l0 ++ D.filter P
theorem NdSt.le {W wr : World} {B g r : Nat} {m : List (Int × Int)} {P : Int → Bool} {l0 D L : List Int} {v : Value} (h : NdSt W wr B g r m P l0 D L v) : L.length ≤ l0.length + m.length := by
  have h2 := nodup_le D (m.map (·.1)) h.dn h.dm
  have h3 := List.length_filter_le P D
  rw [List.length_map] at h2
  rw [h.ls, List.length_append]
  omega
theorem NdSt.lt {W wr : World} {B g r : Nat} {m : List (Int × Int)} {P : Int → Bool} {l0 D L : List Int} {v : Value} (h : NdSt W wr B g r m P l0 D L v) {k : Int} (hm : k ∈ m.map (·.1)) (hk : k ∉ D) : D.length < m.length := by
  have h2 := nodup_le (D ++ [k]) (m.map (·.1)) (List.nodup_append.2 ⟨h.dn, by simp, fun a ha b hb e => by simp at hb; subst hb; subst e; exact hk ha⟩) (fun x hx => by
    rcases List.mem_append.1 hx with q | q
    · exact h.dm x q
    · simp at q; subst q; exact hm)
  simp at h2
  omega
theorem setB_below {w W : World} {B g : Nat} (h : Below B w W) (hg : B ≤ g) (o : Obj) : Below B w (setBlock W g o) :=
  ⟨h.os, h.tape, h.output, by rw [setB_size]; exact h.size, fun b hb => (setB_other (by omega) o).trans (h.block b hb)⟩
theorem row_at {w w' : World} {B : Nat} {e : TypeId} {k n : Nat} {vs : Value} {xs : List Value} (h : w.ownsRow B e k vs n xs) (hb : ∀ x, vs.ownBlock = some x → w'.heap[x]? = w.heap[x]?) : w'.ownsRow B e k vs n xs := by
  refine ⟨h.1, ?_⟩
  rcases h.2 with h1 | ⟨g, cap, cur, hv, hbg, hg, hr⟩
  · exact .inl h1
  · exact .inr ⟨g, cap, cur, hv, hbg, (hb g (by rw [hv]; rfl)).trans hg, hr⟩
/-- One more comes. -/
structure NdMid (W wr w5 : World) (B g r : Nat) (m : List (Int × Int)) (P : Int → Bool) (l0 D L : List Int) (v : Value) (k : Int) : Prop where
  it : ItK kvI w5 g r (upV m) (D ++ [k])
  bel : Below W.heap.size W w5
  row : w5.ownsRow B 3 1 v L.length (L.map cellI)
  big : w5.heap.size = wr.heap.size
  mem : k ∈ m.map (·.1)
  out : k ∉ D
theorem NdSt.next {W wr : World} {B g r : Nat} {m : List (Int × Int)} {P : Int → Bool} {l0 D L : List Int} {v : Value} (h : NdSt W wr B g r m P l0 D L v) :
    ((∀ k ∈ m.map (·.1), k ∈ D) ∧ ∀ ty, (Instr.next (.pointer (some ⟨r, 0, none⟩)) false ty).run Tryz.prog wr = .ok (.tuple #[.bool false]) wr) ∨
    ∃ k x w5, lookI m k = some x ∧ (∀ ty, (Instr.next (.pointer (some ⟨r, 0, none⟩)) false ty).run Tryz.prog wr = .ok (.tuple #[.bool true, .int .i64 k, .int .i64 x]) w5) ∧
      (Instr.entry (.pointer (some ⟨r, 0, none⟩))).run Tryz.prog w5 = .ok (.tuple #[.int .i64 k, .int .i64 x]) w5 ∧ NdMid W wr w5 B g r m P l0 D L v k := by
  rcases h.it.next (P := Tryz.prog) with ⟨hall, hrun⟩ | ⟨k, x, w5, hkm, hkD, hrun, hit5, hent, w5', o5, hw5', hw5⟩
  · refine .inl ⟨fun k hk => ?_, hrun⟩
    rw [← upV_keys] at hk
    obtain ⟨p, hp, rfl⟩ := List.mem_map.1 hk
    exact hall p hp
  · obtain ⟨y, rfl, hy⟩ := upV_mem hkm
    have hnd : (m.map (·.1)).Nodup := by rw [← upV_keys]; exact h.it.nodup
    have hsz : w5.heap.size = wr.heap.size := by rw [hw5, setB_size]; rcases hw5' with rfl | rfl <;> rfl
    refine .inr ⟨k, y, w5, lookI_mem hnd hy, hrun, hent, hit5, ?_, ?_, hsz, List.mem_map.2 ⟨_, hy, rfl⟩, hkD⟩
    · rw [hw5]
      refine setB_below ?_ h.lo.1 _
      rcases hw5' with rfl | rfl
      · exact h.bel
      · exact h.bel.trans (show Below W.heap.size wr wr.drew from ⟨rfl, rfl, rfl, Nat.le_refl _, fun _ _ => rfl⟩)
    · refine row_at h.row (fun z hz => ?_)
      rw [hw5, setB_other (h.off z hz)]
      rcases hw5' with rfl | rfl <;> rfl
theorem NdSt.skip {W wr w5 : World} {B g r : Nat} {m : List (Int × Int)} {P : Int → Bool} {l0 D L : List Int} {v : Value} (h : NdSt W wr B g r m P l0 D L v) {k : Int} (q : NdMid W wr w5 B g r m P l0 D L v k) (hP : P k = false) : NdSt W w5 B g r m P l0 (D ++ [k]) L v := by
  refine ⟨q.it, q.bel, h.lo, q.row, h.off, List.nodup_append.2 ⟨h.dn, by simp, fun a ha b hb e => by simp at hb; subst hb; subst e; exact q.out ha⟩, fun y hy => ?_, ?_⟩
  · rcases List.mem_append.1 hy with z | z
    · exact h.dm y z
    · simp at z; subst z; exact q.mem
  · rw [List.filter_append, h.ls]; simp [hP]
theorem NdSt.take {W wr w5 w6 : World} {B g r : Nat} {m : List (Int × Int)} {P : Int → Bool} {l0 D L : List Int} {v v' : Value} (h : NdSt W wr B g r m P l0 D L v) {k : Int} (q : NdMid W wr w5 B g r m P l0 D L v k) (hP : P k = true)
    (o : Obj) (ha : Appended B 3 (w5.alloc o) w6 v v' (L.length + 1) (L.map cellI ++ [cellI k])) : NdSt W w6 B g r m P l0 (D ++ [k]) (L ++ [k]) v' := by
  have hg := ha.grown
  have hgb : ∀ b, b < w5.heap.size → v.ownBlock ≠ some b → w6.heap[b]? = w5.heap[b]? := fun b hb hv => (hg.block b (by simp; omega) (fun e => hv e.symm)).trans (Below.heap_alloc _ _ _ hb)
  have hgl := q.it.mp.lt
  have hrl := q.it.lt
  have hvg : v.ownBlock ≠ some g := fun e => by
    obtain ⟨_, es, c, hb, _⟩ := q.it.mp
    rcases q.row.2 with ⟨hv, _⟩ | ⟨g2, _, _, hv, _, hg2, _⟩
    · rw [hv] at e; cases e
    · rw [hv] at e
      have : g2 = g := by simpa [Value.ownBlock] using e
      subst this
      rw [hb] at hg2
      cases hg2
  refine ⟨q.it.of_blocks (hgb g hgl hvg) (hgb r hrl (fun e => h.off r e rfl)), ?_, h.lo, by rw [List.map_append, List.length_append]; exact ha.row, fun x hx => ?_, List.nodup_append.2 ⟨h.dn, by simp, fun a ha' b hb e => by simp at hb; subst hb; subst e; exact q.out ha'⟩, fun y hy => ?_, ?_⟩
  · have b1 : Below W.heap.size W (w5.alloc o) := q.bel.alloc q.bel.size o
    refine b1.grown hg b1.size (fun k hk => ?_)
    have := (World.ownsRow.lt h.row k hk).1
    have := h.lo.2
    omega
  · rcases ha.new x hx with e | e
    · exact h.off x e
    · simp at e; omega
  · rcases List.mem_append.1 hy with z | z
    · exact h.dm y z
    · simp at z; subst z; exact q.mem
  · rw [List.filter_append, h.ls]; simp [hP]
theorem src_oneT (w : World) (y : Int) : Src Tryz.prog 1 30 (.slice (some ⟨w.heap.size, 0, none⟩) 1 1) 1 [cellI y] (w.alloc (.cells #[.int .i64 y] 3)) :=
  Src.ofSlice _ Tryz.underlying30 _ _ _ _ rfl (World.news_of_block (cs := #[.int .i64 y]) (t := 3) (fr := (0, 0)) (heap_alloc_new w _)) (by simp [cellI, Value.oneCell'])

set_option maxRecDepth 100000 in
set_option maxHeartbeats 2000000 in
theorem children_t (t : Tr) (g : Nat) (n : Int) (w : World) (h : UpAt w g t.up) (hl : t.up.length ≤ 100000) (hi : ∀ k ∈ t.up.map (·.1), i64 k) :
    Calls Tryz.prog 20 #[.agg #[.int .i64 t.root, .map (some g)], .int .i64 n] w fun e w' => ∃ v l, e = .returned v ∧ SlI w' v l ∧ l.Pairwise (· < ·) ∧ (∀ x, x ∈ l ↔ lookI t.up x = some n) ∧ Below w.heap.size w w' := by
  obtain ⟨i0, hif, hz0, hz1, hz2⟩ := info_of Tryz.infoInt
  obtain ⟨root, up⟩ := t
  simp only at h hl hi ⊢
  have hnd : (up.map (·.1)).Nodup := by rw [← upV_keys]; exact h.1
  obtain ⟨q, hq⟩ : ∃ q, q = w.heap.size := ⟨_, rfl⟩
  obtain ⟨W, hW⟩ : ∃ W, W = w.alloc (.cells #[.int .i64 root, .map (some g)] 40) := ⟨_, rfl⟩
  have hbW : Below w.heap.size w W := by rw [hW]; exact below_one _ _
  have c1 : W.cell? ⟨q, 1, none⟩ = some (.map (some g)) := by rw [hW, hq]; simp
  obtain ⟨o, hrun, hit⟩ := (h.below hbW).start (P := Tryz.prog) Tryz.underlying38
  obtain ⟨r, hr⟩ : ∃ r, r = W.heap.size := ⟨_, rfl⟩
  obtain ⟨W4, hW4⟩ : ∃ W4, W4 = W.alloc o := ⟨_, rfl⟩
  rw [← hW4, ← hr] at hrun hit
  have HW : Hid (Below w.heap.size w W ∧ r = W.heap.size) := ⟨hbW, hr⟩
  have HI : Hid ((∀ k ∈ up.map (·.1), i64 k) ∧ (up.map (·.1)).Nodup ∧ up.length ≤ 100000) := ⟨hi, hnd, hl⟩
  have HK : Hid (∃ P : Int → Bool, P = fun k => decide (lookI up k = some n)) := ⟨_, rfl⟩
  obtain ⟨P, hP⟩ := HK.out
  have HP : Hid (∀ k, P k = decide (lookI up k = some n)) := fun k => by rw [hP]
  have H4 : Hid (NdSt W W4 (r + 1) g r up P [] [] [] (.slice none 0 0)) :=
    ⟨hit, by rw [hW4]; exact below_one _ _, by omega, World.ownsRow_nil _ _ _ _, fun x hx => (by cases hx), List.nodup_nil, fun k hk => (by cases hk), rfl⟩
  clear h hl hi hnd hbW hit hP HK hr
  go_enter Tryz.func20, Tryz.ntmps20
  go_upto_region 1 with fail
  rw [← hW]
  try rw [← hq]
  clear hW hq hW4
  go_wp2
  clear hrun c1
  go_loopg [5] up.length (fun kx v wr => ∃ (a : Option Addr) (m c : Nat), v = .slice a m c ∧ Hid (∃ D L, kx = up.length - D.length ∧ L.length = m ∧ NdSt W wr (r + 1) g r up P [] D L (.slice a m c)))
  case atStart => exact ⟨none, 0, 0, rfl, ⟨[], [], rfl, rfl, H4.out⟩⟩
  case round =>
    obtain ⟨va, vn, vc, rfl, HB⟩ := hrel
    clear H4
    obtain ⟨D, L, hkx, hLn, hd⟩ := HB.out
    have HKX : Hid (_ = up.length - D.length ∧ L.length = vn) := ⟨hkx, hLn⟩
    have HD : Hid (NdSt W wr (r + 1) g r up P [] D L (.slice va vn vc)) := hd
    clear HB hkx hLn hd
    rcases HD.out.next with ⟨hall, hrun⟩ | ⟨k, x, w5, hlk, hrun, hent, hmid⟩
    · have HAL : Hid (∀ k ∈ up.map (·.1), k ∈ D) := hall
      have HSO := sort_own (r + 1) wr va vn vc L (by have := HD.out.row; rw [HKX.out.2] at this; exact this) (by have := HD.out.le; have := HI.out.2.2; have := HKX.out.2; simp at *; omega)
      have HS : Hid _ := HSO
      clear hall HSO
      go_wp2_with fail
      refine Calls.mono HS.out ?_
      clear HS
      rintro e w9 ⟨rfl, l', hperm, hsort, hrow, hgr⟩
      have hLl : L = D.filter P := by have := HD.out.ls; simpa using this
      have hlen : l'.length = vn := by rw [hperm.length_eq]; exact HKX.out.2
      have hmem : ∀ x, x ∈ l' ↔ lookI up x = some n := fun x => by
        rw [hperm.mem_iff, hLl, List.mem_filter, HP.out]
        constructor
        · rintro ⟨_, z⟩; simpa using z
        · intro z
          exact ⟨HAL.out x (List.mem_map.2 ⟨_, lookI_some z, rfl⟩), by simpa using z⟩
      have hnd : l'.Nodup := hperm.nodup_iff.2 (by rw [hLl]; exact HD.out.dn.filter _)
      have hlt : l'.Pairwise (· < ·) := by
        refine (hsort.and hnd).imp (fun {a b} z => ?_)
        have := z.1; have := z.2
        omega
      have HF : Hid (SlI w9 (.slice va vn vc) l' ∧ l'.Pairwise (· < ·) ∧ (∀ x, x ∈ l' ↔ lookI up x = some n) ∧ Below w.heap.size w w9) := by
        have hoc := own_caps hrow
        refine ⟨⟨va, vc, by rw [hlen], by rw [hlen]; exact in_of_own hrow (fun x hx => HI.out.1 x (List.mem_map.2 ⟨_, lookI_some ((hmem x).1 hx), rfl⟩)) (by omega), fun e => ?_, by omega, hoc.2⟩, hlt, hmem, ?_⟩
        · subst e
          rcases hrow.2 with ⟨_, e⟩ | ⟨_, _, _, hv, _⟩
          · omega
          · cases hv
        · have b1 := HW.out.1.trans (HD.out.bel.mono HW.out.1.size)
          refine b1.grown hgr b1.size (fun k hk => ?_)
          have := (World.ownsRow.lt hrow k hk).1
          have := HW.out.2
          have := HW.out.1.size
          omega
      clear hperm hsort hrow hgr hLl hlen hmem hnd hlt
      go_wp2
      go_ret
      exact ⟨_, l', rfl, HF.out.1, HF.out.2.1, HF.out.2.2.1, HF.out.2.2.2⟩
    · have HM : Hid (NdMid W wr w5 (r + 1) g r up P [] D L (.slice va vn vc) k) := hmid
      clear hmid
      by_cases hx : x = n
      · have e1 : (x == n) = true := by simpa using hx
        have HPk : Hid (P k = true) := by show P k = true; rw [HP.out, hlk, hx]; simp
        clear hlk hx
        have HA : Hid ((w5.alloc (.cells #[.int .i64 k] 3)).ownsRow (r + 1) 3 1 (.slice va vn vc) vn (L.map cellI)) := by
          have := HM.out.row
          rw [HKX.out.2] at this
          exact row_at this (fun z hz => Below.heap_alloc _ _ _ ((World.ownsRow.lt this z hz).2))
        have HSz : Hid (r + 1 ≤ w5.heap.size) := HM.out.it.lt
        have HLe : Hid (vn ≤ 100000) := by have := HD.out.le; have := HI.out.2.2; have := HKX.out.2; show vn ≤ 100000; simp at *; omega
        go_wp2_with (at_builtin; refine wpList_own_append _ rfl _ _ 30 30 rfl (r + 1) 3 i0 _ 8 Tryz.underlying30 hif hz0 hz1 hz2 rfl _ _ _ rfl HA.out _ 1 [cellI k] rfl (src_oneT w5 k) ?c3 ?c4 ?c5 ?_)
        case c3 => unfold maxLen; have := HLe.out; omega
        case c4 => have := HLe.out; omega
        case c5 => have := HSz.out; simp; omega
        intro v' w6 ha
        obtain ⟨a', c', rfl⟩ := ha.shape
        have H6 : Hid (NdSt W w6 (r + 1) g r up P [] (D ++ [k]) (L ++ [k]) (.slice a' (vn + 1) c')) := by
          have := HKX.out.2
          subst this
          exact HD.out.take HM.out HPk.out _ ha
        clear ha HA HSz
        go_wp2
        go_roundg (up.length - (D.length + 1))
        case measure => have := HD.out.lt HM.out.mem HM.out.out; have := HKX.out.1; omega
        case rel => exact ⟨a', vn + 1, c', rfl, ⟨D ++ [k], L ++ [k], by simp, by simp [HKX.out.2], H6.out⟩⟩
      · have e1 : (x == n) = false := by simpa using hx
        have HPk : Hid (P k = false) := by show P k = false; rw [HP.out, hlk]; simpa using hx
        clear hlk hx
        have H6 : Hid (NdSt W w5 (r + 1) g r up P [] (D ++ [k]) L (.slice va vn vc)) := HD.out.skip HM.out HPk.out
        go_wp2
        go_roundg (up.length - (D.length + 1))
        case measure => have := HD.out.lt HM.out.mem HM.out.out; have := HKX.out.1; omega
        case rel => exact ⟨va, vn, vc, rfl, ⟨D ++ [k], L, by simp, HKX.out.2, H6.out⟩⟩
end Go.Proofs.YtkkkldglceiiiaaGreat
