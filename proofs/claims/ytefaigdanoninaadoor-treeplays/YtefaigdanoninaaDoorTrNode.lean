/- tree.Tree.Nodes. -/
import Derived.Test.YtefaigdanoninaaDoorTrRow
namespace Go.Proofs.YtefaigdanoninaaDoor
open Go.ChangeShapes Go.WideShapes Go.ChangeAt Go.RowKit Go.Deep
open Go.ChangeMaps (setBlock)
set_option linter.unusedVariables false

/-- The loop of Nodes, behind the root. -/
structure NdPre (W W3 : World) (root : Int) (B : Nat) (l0 : List Int) (v : Value) : Prop where
  bel : Below W.heap.size W W3
  lo : W.heap.size ≤ B
  row : W3.ownsRow B 3 1 v l0.length (l0.map cellI)
  ls : l0 = if root = -1 then [] else [root]

set_option maxRecDepth 100000 in
set_option maxHeartbeats 2000000 in
theorem nodes_t (nx : Int → Option Int) (t : Tr) (g : Nat) (w : World) (h : UpAt w g t.up) (hl : t.up.length ≤ 100000) (hi : ∀ k ∈ t.up.map (·.1), i64 k) (hr : i64 t.root) (hok : TrOk nx t) :
    Calls Tryd.prog 9 #[.agg #[.int .i64 t.root, .map (some g)]] w fun e w' => ∃ v l, e = .returned v ∧ SlI w' v l ∧ l.Pairwise (· < ·) ∧ (∀ x, x ∈ l ↔ t.inT x) ∧ Below w.heap.size w w' := by
  obtain ⟨i0, hif, hz0, hz1, hz2⟩ := info_of Tryd.infoInt
  obtain ⟨root, up⟩ := t
  simp only at h hl hi hr ⊢
  have hnd : (up.map (·.1)).Nodup := hok.nd
  obtain ⟨q, hq⟩ : ∃ q, q = w.heap.size := ⟨_, rfl⟩
  obtain ⟨W, hW⟩ : ∃ W, W = w.alloc (.cells #[.int .i64 root, .map (some g)] 25) := ⟨_, rfl⟩
  have hbW : Below w.heap.size w W := by rw [hW]; exact below_one _ _
  have c0 : W.cell? ⟨q, 0, none⟩ = some (.int .i64 root) := by rw [hW, hq]; exact World.cell?_alloc_new ..
  have c1 : W.cell? ⟨q, 1, none⟩ = some (.map (some g)) := by rw [hW, hq]; simp
  have HW : Hid (Below w.heap.size w W ∧ UpAt W g up) := ⟨hbW, h.below hbW⟩
  have HI : Hid ((∀ k ∈ up.map (·.1), i64 k) ∧ (up.map (·.1)).Nodup ∧ up.length ≤ 100000 ∧ i64 root) := ⟨hi, hnd, hl, hr⟩
  clear h hl hi hnd hbW hr hok
  go_enter Tryd.func9, Tryd.ntmps9
  go_upto_region 1 with fail
  rw [← hW]
  try rw [← hq]
  clear hW hq
  go_upto_if 7 with fail
  go_cut [3] (fun v wx => ∃ (a : Option Addr) (m c : Nat), v = .slice a m c ∧ Hid (∃ l0, l0.length = m ∧ NdPre W wx root W.heap.size l0 (.slice a m c)))
  case first =>
    by_cases hx : root = -1
    · have e1 : (root != -1) = false := by simpa using hx
      have H3 : Hid (NdPre W W root W.heap.size [] (.slice none 0 0)) := ⟨Below.refl _ _, Nat.le_refl _, World.ownsRow_nil _ _ _ _, by rw [if_pos hx]⟩
      clear hx
      go_wp2
      go_meet
      exact ⟨none, 0, 0, rfl, ⟨[], rfl, H3.out⟩⟩
    · have e1 : (root != -1) = true := by simpa using hx
      have HX : Hid (root ≠ -1) := hx
      clear hx
      have HA : Hid ((W.alloc (.cells #[.int .i64 root] 3)).ownsRow W.heap.size 3 1 (.slice none 0 0) 0 ([].map cellI)) := World.ownsRow_nil _ _ _ _
      go_wp2_with (at_builtin; refine wpList_own_append _ rfl _ _ 22 22 rfl W.heap.size 3 i0 _ 8 Tryd.underlying22 hif hz0 hz1 hz2 rfl _ _ _ rfl HA.out _ 1 [cellI root] rfl (src_oneT W root) (by unfold maxLen; omega) (by omega) (by simp) ?_)
      intro v' w6 ha
      obtain ⟨a', c', rfl⟩ := ha.shape
      have H3 : Hid (NdPre W w6 root W.heap.size [root] (.slice a' (0 + 1) c')) := by
        have b1 : Below W.heap.size W (W.alloc (.cells #[.int .i64 root] 3)) := below_one _ _
        refine ⟨b1.grown ha.grown b1.size (fun k hk => by cases hk), Nat.le_refl _, ha.row, by rw [if_neg HX.out]⟩
      clear ha HA
      go_wp2
      go_meet
      exact ⟨a', 0 + 1, c', rfl, ⟨[root], rfl, H3.out⟩⟩
  case rest =>
    rename World => W3
    obtain ⟨a3, m3, c3, rfl, H3⟩ := hcut
    obtain ⟨l0, hl0, h3⟩ := H3.out
    have HP0 : Hid (NdPre W W3 root W.heap.size l0 (.slice a3 m3 c3) ∧ l0.length = m3 ∧ l0.length ≤ 1) := ⟨h3, hl0, by rw [h3.ls]; split <;> simp⟩
    replace c1 := cell_grown c1 h3.bel
    obtain ⟨o, hrun, hit⟩ := (HW.out.2.below h3.bel).start (P := Tryd.prog) Tryd.underlying23
    obtain ⟨r, hr⟩ : ∃ r, r = W3.heap.size := ⟨_, rfl⟩
    obtain ⟨W4, hW4⟩ : ∃ W4, W4 = W3.alloc o := ⟨_, rfl⟩
    rw [← hW4, ← hr] at hrun hit
    have H4 : Hid (NdSt W W4 W.heap.size g r up (fun _ => true) l0 [] l0 (.slice a3 m3 c3)) := by
      refine ⟨hit, by rw [hW4]; exact h3.bel.alloc h3.bel.size _, ⟨by rw [hr]; exact h3.bel.size, Nat.le_refl _⟩, ?_, fun x hx => ?_, List.nodup_nil, fun k hk => (by cases hk), by simp⟩
      · rw [hW4]
        refine row_at h3.row (fun z hz => Below.heap_alloc _ _ _ ((World.ownsRow.lt h3.row z hz).2))
      · have := (World.ownsRow.lt h3.row x hx).2
        omega
    clear c0 hit hr hl0 h3 H3 hW4
    go_wp2
    clear hrun c1
    go_loopg [3] up.length (fun kx v wr => ∃ (a : Option Addr) (m c : Nat), v = .slice a m c ∧ Hid (∃ D L, kx = up.length - D.length ∧ L.length = m ∧ NdSt W wr W.heap.size g r up (fun _ => true) l0 D L (.slice a m c)))
    case atStart => exact ⟨a3, m3, c3, rfl, ⟨[], l0, rfl, HP0.out.2.1, H4.out⟩⟩
    case round =>
      obtain ⟨va, vn, vc, rfl, HB⟩ := hrel
      clear H4
      obtain ⟨D, L, hkx, hLn, hd⟩ := HB.out
      have HKX : Hid (_ = up.length - D.length ∧ L.length = vn) := ⟨hkx, hLn⟩
      have HD : Hid (NdSt W wr W.heap.size g r up (fun _ => true) l0 D L (.slice va vn vc)) := hd
      clear HB hkx hLn hd
      have HLe : Hid (vn ≤ 100001) := by have := HD.out.le; have := HI.out.2.2.1; have := HKX.out.2; have := HP0.out.2.2; show vn ≤ 100001; omega
      rcases HD.out.next with ⟨hall, hrun⟩ | ⟨k, x, w5, hlk, hrun, hent, hmid⟩
      · have HAL : Hid (∀ k ∈ up.map (·.1), k ∈ D) := hall
        have HSO := sort_own W.heap.size wr va vn vc L (by have := HD.out.row; rw [HKX.out.2] at this; exact this) (by have := HLe.out; omega)
        have HS : Hid _ := HSO
        clear hall HSO
        go_wp2_with fail
        refine Calls.mono HS.out ?_
        clear HS
        rintro e w9 ⟨rfl, l', hperm, hsort, hrow, hgr⟩
        have hLl : L = l0 ++ D := by have := HD.out.ls; rw [List.filter_eq_self.2 (fun _ _ => rfl)] at this; exact this
        have hmem : ∀ x, x ∈ l' ↔ (⟨root, up⟩ : Tr).inT x := fun x => by
          rw [hperm.mem_iff, hLl, List.mem_append, HP0.out.1.ls]
          unfold Tr.inT
          simp only
          have hD : x ∈ D ↔ ∃ v, lookI up x = some v := by
            constructor
            · intro z
              obtain ⟨p, hp, rfl⟩ := List.mem_map.1 (HD.out.dm x z)
              exact ⟨p.2, lookI_mem HI.out.2.1 hp⟩
            · rintro ⟨v, z⟩
              exact HAL.out x (List.mem_map.2 ⟨_, lookI_some z, rfl⟩)
          rw [hD]
          by_cases e : root = -1
          · simp [e]
          · simp [e]
        have hi6 : ∀ x ∈ l', i64 x := fun x hx => by
          rcases (hmem x).1 hx with ⟨_, e⟩ | ⟨v, z⟩
          · rw [e]; exact HI.out.2.2.2
          · exact HI.out.1 x (List.mem_map.2 ⟨_, lookI_some z, rfl⟩)
        have hbel : Below w.heap.size w w9 := by
          have b1 := HW.out.1.trans (HD.out.bel.mono HW.out.1.size)
          refine b1.grown hgr b1.size (fun k hk => ?_)
          have := (World.ownsRow.lt hrow k hk).1
          have := HW.out.1.size
          omega
        have HF : Hid (l'.Pairwise (· ≤ ·) ∧ (∀ x, x ∈ l' ↔ (⟨root, up⟩ : Tr).inT x) ∧ Below w.heap.size w w9) := ⟨hsort, hmem, hbel⟩
        have HCP := compact_own W.heap.size w9 va vn vc l' hrow hi6 (by have := HLe.out; omega)
        have HC : Hid _ := HCP
        clear hperm hsort hrow hgr hLl hmem hi6 hbel HCP
        go_wp2_with fail
        refine Calls.mono HC.out ?_
        clear HC
        rintro e w10 ⟨m, rfl, hin, hz, hmc, hcm, hb⟩
        obtain ⟨r1, r2⟩ := compact_rise _ l' rfl HF.out.1
        have hml : m = (Lib.compact l').length := hin.1.symm
        have HG : Hid (SlI w10 (.slice va m vc) (Lib.compact l') ∧ (Lib.compact l').Pairwise (· < ·) ∧ (∀ x, x ∈ Lib.compact l' ↔ (⟨root, up⟩ : Tr).inT x) ∧ Below w.heap.size w w10) := by
          subst hml
          exact ⟨⟨va, vc, rfl, hin, hz, hmc, hcm⟩, r1, fun x => (r2 x).trans (HF.out.2.1 x), HF.out.2.2.trans (hb.mono HW.out.1.size)⟩
        clear hin hz hmc hcm hb r1 r2 hml
        go_wp2
        go_ret
        exact ⟨_, _, rfl, HG.out.1, HG.out.2.1, HG.out.2.2.1, HG.out.2.2.2⟩
      · have HM : Hid (NdMid W wr w5 W.heap.size g r up (fun _ => true) l0 D L (.slice va vn vc) k) := hmid
        clear hmid hlk
        have HA : Hid ((w5.alloc (.cells #[.int .i64 k] 3)).ownsRow W.heap.size 3 1 (.slice va vn vc) vn (L.map cellI)) := by
          have := HM.out.row
          rw [HKX.out.2] at this
          exact row_at this (fun z hz => Below.heap_alloc _ _ _ ((World.ownsRow.lt this z hz).2))
        have HSz : Hid (W.heap.size ≤ w5.heap.size) := HM.out.bel.size
        go_wp2_with (at_builtin; go_loud (refine wpList_own_append _ rfl _ _ 22 22 rfl W.heap.size 3 i0 _ 8 Tryd.underlying22 hif hz0 hz1 hz2 rfl _ _ _ rfl HA.out _ 1 [cellI k] rfl (src_oneT w5 k) ?c3 ?c4 ?c5 ?_))
        case c3 => unfold maxLen; have := HLe.out; omega
        case c4 => have := HLe.out; omega
        case c5 => have := HSz.out; simp; omega
        intro v' w6 ha
        obtain ⟨a', c', rfl⟩ := ha.shape
        have H6 : Hid (NdSt W w6 W.heap.size g r up (fun _ => true) l0 (D ++ [k]) (L ++ [k]) (.slice a' (vn + 1) c')) := by
          have := HKX.out.2
          subst this
          exact HD.out.take HM.out rfl _ ha
        clear ha HA HSz
        go_wp2
        go_roundg (up.length - (D.length + 1))
        case measure => have := HD.out.lt HM.out.mem HM.out.out; have := HKX.out.1; omega
        case rel => exact ⟨a', vn + 1, c', rfl, ⟨D ++ [k], L ++ [k], by simp, by simp [HKX.out.2], H6.out⟩⟩
end Go.Proofs.YtefaigdanoninaaDoor
