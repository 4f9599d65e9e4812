/- wigwaglaw15.Cut. -/
import Derived.Test.YtakfinccoffplaaDoorMsAid
namespace Go.Proofs.YtakfinccoffplaaDoor
open Go.ChangeShapes Go.WideShapes Go.ChangeAt Go.RowKit
set_option linter.unusedVariables false

def cutT (l : List ByteArray) : List ByteArray := (l.take 20).map (fun s => cut s 400)
/-- A message, cut. -/
def cutM (m : Mg) : Mg := ⟨m.kind, cut m.group 50, m.any, cutT m.fl, m.pub, m.seq, m.hops, (m.vl.take 6).map cutV, cut m.pay 2100⟩

structure Cs (w wr : World) (m : Mg) (fa : Option Addr) (fc : Nat) (va : Option Addr) (vc : Nat) (i : Nat) (v : Value) : Prop where
  pb : wr.heap[w.heap.size]? = some (.cells #[.int .i64 m.kind, .string m.group, .bool m.any, .slice fa m.fl.length fc, .int .i64 m.pub, .int .i64 m.seq, .int .i64 m.hops, .slice va m.vl.length vc, .string m.pay] 27 (0, 0))
  rb : wr.heap[w.heap.size + 1]? = some (.cells #[.int .i64 0, .string ⟨#[]⟩, .bool false, .slice none 0 0, .int .i64 0, .int .i64 0, .int .i64 0, .slice none 0 0, .string ⟨#[]⟩] 27 (0, 0))
  ob : wr.heap[w.heap.size + 2]? = some (.cells #[.int .i64 m.kind, .string (cut m.group 50), .bool m.any, v, .int .i64 m.pub, .int .i64 m.seq, .int .i64 m.hops, .slice va m.vl.length vc, .string m.pay] 27 (0, 0))
  row : wr.ownsRow (w.heap.size + 3) 9 1 v i (((m.fl.take i).map (fun s => cut s 400)).map Value.string)
  bel : Below w.heap.size w wr
  size : w.heap.size + 3 ≤ wr.heap.size

theorem Cs.step {w wr w6 : World} {m : Mg} {fa : Option Addr} {fc : Nat} {va : Option Addr} {vc i c gg cap : Nat} {av : Option Addr} {t : ByteArray} (H : Cs w wr m fa fc va vc i (.slice av i c))
    (hown : w6.ownsRow (w.heap.size + 3) 9 1 (.slice (some ⟨gg, 0, none⟩) (i + 1) cap) (i + 1) (((m.fl.take i).map (fun s => cut s 400)).map Value.string ++ [.string t]))
    (hg : (wr.drew.alloc (.cells #[.string t] 9)).grownBy w6 (Value.slice av i c).ownBlock) (hst : (m.fl.take (i + 1)).map (fun s => cut s 400) = (m.fl.take i).map (fun s => cut s 400) ++ [t]) :
    Cs w (w6.setCell ⟨w.heap.size + 2, 3, none⟩ (.slice (some ⟨gg, 0, none⟩) (i + 1) cap)) m fa fc va vc (i + 1) (.slice (some ⟨gg, 0, none⟩) (i + 1) cap) := by
  have hz := H.size
  have hbk : ∀ k, k < w.heap.size + 3 → w6.heap[k]? = wr.heap[k]? := fun k hk =>
    (hg.block k (by simp; omega) (fun e => by have := (H.row.lt k e.symm).1; omega)).trans (Below.heap_alloc wr.drew _ k (by show k < wr.heap.size; omega))
  have hgg : w.heap.size + 3 ≤ gg := (hown.lt gg rfl).1
  refine ⟨?_, ?_, ?_, ?_, ?_, ?_⟩
  · rw [set_other (by omega)]; exact (hbk _ (by omega)).trans H.pb
  · rw [set_other (by omega)]; exact (hbk _ (by omega)).trans H.rb
  · simpa using box_set (i := 3) ((hbk _ (by omega)).trans H.ob) (.slice (some ⟨gg, 0, none⟩) (i + 1) cap)
  · rw [hst, List.map_append]
    exact row_mv hown (fun k hk => set_other (by simp [Value.ownBlock] at hk; omega) _)
  · refine H.bel.trans ⟨hg.os, hg.tape, hg.output, ?_, fun k hk => ?_⟩
    · have := hg.size; simp at this; simp [World.setCell]; omega
    · rw [set_other (by omega)]; exact hbk k (by omega)
  · have := hg.size; simp at this; simp [World.setCell]; omega
theorem cutT_of {fl : List ByteArray} {i : Nat} (h : ¬ (i < fl.length ∧ i < 20)) (h1 : i ≤ fl.length) (h2 : i ≤ 20) : (fl.take i).map (fun s => cut s 400) = cutT fl ∧ (cutT fl).length = i := by
  have e : (fl.take i).map (fun s => cut s 400) = cutT fl := by
    unfold cutT
    by_cases q : i = 20
    · rw [q]
    · have : i = fl.length := by omega
      rw [List.take_of_length_le (by omega), List.take_of_length_le (by omega)]
  refine ⟨e, ?_⟩
  rw [← e, List.length_map, List.length_take]; omega

set_option maxRecDepth 100000 in
set_option maxHeartbeats 4000000 in
theorem cut15_any (m : Mg) (fa : Option Addr) (fc : Nat) (va : Option Addr) (vc : Nat) (w : World) (hf : InRow 1 encS okS ByteArray.empty w fa m.fl.length m.fl) (hv : InRow 2 Vl.cells Vl.ok vl0 w va m.vl.length m.vl)
    (hg : m.group.size ≤ maxLen) (hp : m.pay.size ≤ maxLen) :
    Calls Tryd.prog 5 #[m.val fa fc va vc] w fun e w' => ∃ fa' fc' va' vc', e = .returned ((cutM m).val fa' fc' va' vc') ∧
      InRow 1 encS okS ByteArray.empty w' fa' (cutM m).fl.length (cutM m).fl ∧ InRow 2 Vl.cells Vl.ok vl0 w' va' (cutM m).vl.length (cutM m).vl ∧ ((∀ x, fa' = some x → w.heap.size ≤ x.block) ∧ ∀ x, va' = some x → w.heap.size ≤ x.block) ∧ Below w.heap.size w w' := by
  obtain ⟨i0, hi0, hz0, hz1, hz2⟩ := info_parts Tryd.infoSt
  unfold Mg.val
  have HF : Hid (InRow 1 encS okS ByteArray.empty w fa m.fl.length m.fl) := hf
  have HVr : Hid (InRow 2 Vl.cells Vl.ok vl0 w va m.vl.length m.vl) := hv
  have hfl := hf.2.1
  have hvl := hv.2.1
  clear hf hv
  obtain ⟨W3, hW3⟩ : ∃ W3, W3 = ((w.alloc (.cells #[.int .i64 m.kind, .string m.group, .bool m.any, .slice fa m.fl.length fc, .int .i64 m.pub, .int .i64 m.seq, .int .i64 m.hops, .slice va m.vl.length vc, .string m.pay] 27)).alloc (.cells #[.int .i64 0, .string ⟨#[]⟩, .bool false, .slice none 0 0, .int .i64 0, .int .i64 0, .int .i64 0, .slice none 0 0, .string ⟨#[]⟩] 27)).alloc (.cells #[.int .i64 m.kind, .string m.group, .bool m.any, .slice fa m.fl.length fc, .int .i64 m.pub, .int .i64 m.seq, .int .i64 m.hops, .slice va m.vl.length vc, .string m.pay] 27) := ⟨_, rfl⟩
  have p3 : W3.heap[w.heap.size]? = some (.cells #[.int .i64 m.kind, .string m.group, .bool m.any, .slice fa m.fl.length fc, .int .i64 m.pub, .int .i64 m.seq, .int .i64 m.hops, .slice va m.vl.length vc, .string m.pay] 27 (0, 0)) := by rw [hW3, Below.heap_alloc _ _ _ (by simp; omega), Below.heap_alloc _ _ _ (by simp)]; exact heap_alloc_new w _
  have r3 : W3.heap[w.heap.size + 1]? = some (.cells #[.int .i64 0, .string ⟨#[]⟩, .bool false, .slice none 0 0, .int .i64 0, .int .i64 0, .int .i64 0, .slice none 0 0, .string ⟨#[]⟩] 27 (0, 0)) := by
    rw [hW3, Below.heap_alloc _ _ _ (by simp)]; have := heap_alloc_new (w.alloc (.cells #[.int .i64 m.kind, .string m.group, .bool m.any, .slice fa m.fl.length fc, .int .i64 m.pub, .int .i64 m.seq, .int .i64 m.hops, .slice va m.vl.length vc, .string m.pay] 27)) (.cells #[.int .i64 0, .string ⟨#[]⟩, .bool false, .slice none 0 0, .int .i64 0, .int .i64 0, .int .i64 0, .slice none 0 0, .string ⟨#[]⟩] 27); simpa using this
  have o3 : W3.heap[w.heap.size + 2]? = some (.cells #[.int .i64 m.kind, .string m.group, .bool m.any, .slice fa m.fl.length fc, .int .i64 m.pub, .int .i64 m.seq, .int .i64 m.hops, .slice va m.vl.length vc, .string m.pay] 27 (0, 0)) := by
    rw [hW3]; have := heap_alloc_new ((w.alloc (.cells #[.int .i64 m.kind, .string m.group, .bool m.any, .slice fa m.fl.length fc, .int .i64 m.pub, .int .i64 m.seq, .int .i64 m.hops, .slice va m.vl.length vc, .string m.pay] 27)).alloc (.cells #[.int .i64 0, .string ⟨#[]⟩, .bool false, .slice none 0 0, .int .i64 0, .int .i64 0, .int .i64 0, .slice none 0 0, .string ⟨#[]⟩] 27)) (.cells #[.int .i64 m.kind, .string m.group, .bool m.any, .slice fa m.fl.length fc, .int .i64 m.pub, .int .i64 m.seq, .int .i64 m.hops, .slice va m.vl.length vc, .string m.pay] 27); simpa using this
  have b3 : Below w.heap.size w W3 := by rw [hW3]; exact (((Below.refl _ _).alloc (Nat.le_refl _) _).alloc (by simp) _).alloc (by simp; omega) _
  have s3 : W3.heap.size = w.heap.size + 3 := by rw [hW3]; simp
  have x1 : W3.cell? ⟨w.heap.size, 1, none⟩ = some (.string m.group) := blk_cell (j := 1) p3 (by simp)
  have u1 : W3.cell? ⟨w.heap.size + 2, 1, none⟩ = some (.string m.group) := blk_cell (j := 1) o3 (by simp)
  have u3 : W3.cell? ⟨w.heap.size + 2, 3, none⟩ = some (.slice fa m.fl.length fc) := blk_cell (j := 3) o3 (by simp)
  have uf := frozen9 o3
  have ul := lt_of_block o3
  have pl := lt_of_block p3
  obtain ⟨W4, hW4⟩ : ∃ W4, W4 = (W3.setCell ⟨w.heap.size + 2, 1, none⟩ (.string (cut m.group 50))).setCell ⟨w.heap.size + 2, 3, none⟩ (.slice none 0 0) := ⟨_, rfl⟩
  have H4 : Hid (Cs w W4 m fa fc va vc 0 (.slice none 0 0)) := by
    show Cs w W4 m fa fc va vc 0 (.slice none 0 0)
    rw [hW4]
    refine ⟨?_, ?_, ?_, World.ownsRow_nil _ _ _ _, (b3.setCell (by show w.heap.size ≤ w.heap.size + 2; omega) _).setCell (by show w.heap.size ≤ w.heap.size + 2; omega) _, by simp [World.setCell, s3]⟩
    · rw [set_other (by omega), set_other (by omega)]; exact p3
    · rw [set_other (by omega), set_other (by omega)]; exact r3
    · simpa using box_set (i := 3) (box_set (i := 1) o3 (.string (cut m.group 50))) (.slice none 0 0)
  generalize hgg : cut m.group 50 = g at hW4
  go_enter Tryd.func5, Tryd.ntmps5
  go_upto_region 2 with fail
  rw [← hW3]
  clear hW3
  go_wp2_with fail
  refine (cut_any m.group 50 _ hg).mono ?_
  rintro e w' ⟨rfl, hw'⟩
  subst w'
  rw [hgg]
  go_wp2
  rw [← hW4]
  clear hW4 x1 u1 u3 uf ul pl b3 s3 p3 r3 o3
  go_loopg [4] 20 (fun kx s wr => ∃ (i c : Nat) (av : Option Addr), s = .int .i64 i ∧ i ≤ m.fl.length ∧ i ≤ 20 ∧ kx = 20 - i ∧ Hid (Cs w wr m fa fc va vc i (.slice av i c)))
  case atStart => exact ⟨0, 0, none, rfl, Nat.zero_le _, by omega, rfl, H4⟩
  case round =>
    obtain ⟨i, c, av, rfl, hil, hi20, rfl, H⟩ := hrel
    rename World => wr
    clear H4
    have d3 : wr.cell? ⟨w.heap.size, 3, none⟩ = some (.slice fa m.fl.length fc) := blk_cell (j := 3) H.out.pb (by simp)
    have dl := lt_of_block H.out.pb
    have e3 : wr.cell? ⟨w.heap.size + 2, 3, none⟩ = some (.slice av i c) := blk_cell (j := 3) H.out.ob (by simp)
    have el := lt_of_block H.out.ob
    have hi0' : (0 : Int) ≤ (i : Int) := Int.natCast_nonneg _
    by_cases hlt : i < m.fl.length ∧ i < 20
    · obtain ⟨hl1, hl2⟩ := hlt
      have hi1 : (i : Int) < (m.fl.length : Int) := by omega
      have hi2 : (i : Int) < 20 := by omega
      obtain ⟨b, o, ha, hb, hok, hcell⟩ := HF.out.get i hl1
      subst ha
      have hbw : b < wr.heap.size := by have := H.out.bel.size; omega
      have hst : (m.fl.take (i + 1)).map (fun s => cut s 400) = (m.fl.take i).map (fun s => cut s 400) ++ [cut (m.fl.getD i ByteArray.empty) 400] := by
        rw [List.take_succ_eq_append_getElem hl1, List.map_append]; simp [hl1]
      generalize m.fl.getD i ByteArray.empty = s at hcell hok hst
      have k0 := hcell 0 (by omega)
      have hci : wr.cell? ⟨b, o + i * 1 + 0, none⟩ = _ := (H.out.bel.cell (p := ⟨b, o + i * 1 + 0, none⟩) hb).trans k0
      simp [encS] at hci
      have hss : s.size ≤ maxLen := hok
      obtain ⟨t, ht⟩ : ∃ t, t = cut s 400 := ⟨_, rfl⟩
      rw [← ht] at hst
      have HST : Hid _ := hst
      have HT : Hid (cut s 400 = t) := ht.symm
      clear ht hst hcell k0 hok
      have hrow := H.out.row
      have hBr := H.out.size
      go_upto_region 7 with fail
      go_region_law
        (first
          | (refine step_append_lies _ (by rfl) _ _ _ (by rfl) (w.heap.size + 3) 9 i0 _ 1 16 Tryd.underlying22 hi0 hz0 hz1 hz2 rfl (by omega) _ _ _ (by rfl) (row_mv (w' := wr.drew.alloc (.cells #[.string t] 9)) hrow (fun k hk => Below.heap_alloc wr.drew _ _ (hrow.lt k hk).2))
              ⟨wr.heap.size, 0, none⟩ 1 1 [.string t] (by rfl) (by rfl) (World.news_of_block (cs := #[.string t]) (t := 9) (fr := (0, 0)) (heap_alloc_new wr.drew _)) (by simp [Value.oneCell'])
              (by omega) (by unfold maxLen; omega) (by omega) (by simp; omega) (wr.heap.size + 1) (by simp) ?_; intro gg cap w6 hown1 hgrow hat hlt3
             have hb3 : w6.heap[w.heap.size + 2]? = _ := (hgrow.block (w.heap.size + 2) (by simp; omega) (fun e => by have := (hrow.lt _ e.symm).1; omega)).trans ((Below.heap_alloc wr.drew _ (w.heap.size + 2) el).trans H.out.ob)
             have hf2 : w6.frozen? ⟨w.heap.size + 2, 3, none⟩ = false := by simp [World.frozen?, hb3]
             have hk1 : w6.cell? ⟨w.heap.size + 2, 3, none⟩ = some (.slice av i c) := blk_cell (j := 3) hb3 (by simp)
             have hl2' := lt_of_block hb3)
          | (go_simp; go_at_call 13; refine (cut_any s 400 _ hss).mono ?_; rintro e w' ⟨rfl, hw'⟩; subst w'; rw [HT.out]))
      all_goals
        have HN : Hid (Cs w (w6.setCell ⟨w.heap.size + 2, 3, none⟩ (.slice (some ⟨gg, 0, none⟩) (i + 1) cap)) m (some ⟨b, o, none⟩) fc va vc (i + 1) (.slice (some ⟨gg, 0, none⟩) (i + 1) cap)) := H.out.step hown1 hgrow HST.out
        clear hown1 hgrow hat hlt3 hb3 hf2 hk1 hl2' H
        go_wp2
        go_roundg (20 - (i + 1))
        case measure => omega
        case rel => exact ⟨i + 1, cap, _, by go_num, by omega, by omega, rfl, HN⟩
    · have hor : (True ∧ ¬ (i : Int) < (m.fl.length : Int)) ∨ ((i : Int) < (m.fl.length : Int) ∧ ¬ (i : Int) < 20) := by
        by_cases q : (i : Int) < (m.fl.length : Int)
        · exact .inr ⟨q, by omega⟩
        · exact .inl ⟨trivial, q⟩
      have HC : Hid ((m.fl.take i).map (fun s => cut s 400) = cutT m.fl ∧ (cutT m.fl).length = i) := cutT_of hlt hil hi20
      clear hlt
      have bw := H.out.bel
      have cev := ev_any va m.vl.length vc ⟨#[]⟩ m.vl wr (HVr.out.below (Nat.le_refl _) bw) (by decide)
      have cp : ∀ W, _ := fun W => cut_any m.pay 2100 W hp
      generalize hp2 : cut m.pay 2100 = pay2 at cp
      have HP2 : Hid (cut m.pay 2100 = pay2) := hp2
      clear hp2
      have d7 : wr.cell? ⟨w.heap.size, 7, none⟩ = some (.slice va m.vl.length vc) := blk_cell (j := 7) H.out.pb (by simp)
      go_upto_region 5 with fail
      go_cut [21] (fun v wx => v = .bool false ∧ wr = wx)
      case first =>
        rcases hor with ⟨hor', hor⟩ | ⟨hor', hor⟩
        all_goals
          go_wp2
          go_meet
          exact ⟨rfl, rfl⟩
      case rest =>
        obtain ⟨rfl, hwx⟩ := hcut
        subst hwx
        go_wp2_with fail
        refine cev.mono ?_
        rintro e w5 ⟨v1, v2, rfl, ho1, ho2, hap, hb5⟩
        obtain ⟨va1, vc1, hv1⟩ := own_shape ho1
        obtain ⟨va2, vc2, hv2⟩ := own_shape ho2
        generalize hn1 : ((m.vl.take 6).map cutV).length = n1 at *
        subst hv1 hv2
        have hz := H.out.size
        have hs5 := hb5.size
        have pb5 := (hb5.block _ dl).trans H.out.pb
        have ob5 := (hb5.block _ el).trans H.out.ob
        have rb5 := (hb5.block _ (by omega)).trans H.out.rb
        rw [hgg] at ob5
        obtain ⟨W6, hW6⟩ : ∃ W6, W6 = w5.alloc (.cells #[.slice va1 n1 vc1, .string (cut ⟨#[]⟩ 210)] 25) := ⟨_, rfl⟩
        have b6 : Below w5.heap.size w5 W6 := by rw [hW6]; exact below1 _ _
        have z6 : W6.heap[w5.heap.size]? = some (.cells #[.slice va1 n1 vc1, .string (cut ⟨#[]⟩ 210)] 25 (0, 0)) := by rw [hW6]; exact heap_alloc_new w5 _
        have pb6 := (b6.block _ (by omega)).trans pb5
        have ob6 := (b6.block _ (by omega)).trans ob5
        have rb6 := (b6.block _ (by omega)).trans rb5
        obtain ⟨W7, hW7⟩ : ∃ W7, W7 = W6.setCell ⟨w.heap.size + 2, 7, none⟩ (.slice va1 n1 vc1) := ⟨_, rfl⟩
        have ob7 : W7.heap[w.heap.size + 2]? = some (.cells #[.int .i64 m.kind, .string g, .bool m.any, .slice av i c, .int .i64 m.pub, .int .i64 m.seq, .int .i64 m.hops, .slice va1 n1 vc1, .string m.pay] 27 (0, 0)) := by
          rw [hW7]; simpa using box_set (i := 7) ob6 (.slice va1 n1 vc1)
        have pb7 : W7.heap[w.heap.size]? = _ := (by rw [hW7]; exact set_other (by omega) _ : W7.heap[w.heap.size]? = W6.heap[w.heap.size]?).trans pb6
        have rb7 : W7.heap[w.heap.size + 1]? = _ := (by rw [hW7]; exact set_other (by omega) _ : W7.heap[w.heap.size + 1]? = W6.heap[w.heap.size + 1]?).trans rb6
        have q0 : W6.cell? ⟨w5.heap.size, 0, none⟩ = some (.slice va1 n1 vc1) := blk_cell (j := 0) z6 (by simp)
        have ql := lt_of_block z6
        have o7 : W6.cell? ⟨w.heap.size + 2, 7, none⟩ = some _ := blk_cell (j := 7) ob6 (by simp)
        have of6 := frozen9 ob6
        have ol6 := lt_of_block ob6
        go_upto_region 9 with fail
        rw [← hW6]
        clear hW6
        go_upto_region 10 with fail
        rw [← hW7]
        have HW7 : Hid (W7 = W6.setCell ⟨w.heap.size + 2, 7, none⟩ (.slice va1 n1 vc1)) := hW7
        clear hW7
        have p8 : W7.cell? ⟨w.heap.size, 8, none⟩ = some (.string m.pay) := blk_cell (j := 8) pb7 (by simp)
        have pl7 := lt_of_block pb7
        have o8 : W7.cell? ⟨w.heap.size + 2, 8, none⟩ = some _ := blk_cell (j := 8) ob7 (by simp)
        have of7 := frozen9 ob7
        have ol7 := lt_of_block ob7
        clear q0 ql o7 of6 ol6 d3 d7 dl e3 el
        go_wp2_with fail
        refine (cp _).mono ?_
        rintro e w' ⟨rfl, hw'⟩
        subst w'
        obtain ⟨w6, hw8⟩ : ∃ w6, w6 = W7.setCell ⟨w.heap.size + 2, 8, none⟩ (.string pay2) := ⟨_, rfl⟩
        have ob8 : w6.heap[w.heap.size + 2]? = some (.cells #[.int .i64 m.kind, .string g, .bool m.any, .slice av i c, .int .i64 m.pub, .int .i64 m.seq, .int .i64 m.hops, .slice va1 n1 vc1, .string pay2] 27 (0, 0)) := by
          rw [hw8]; simpa using box_set (i := 8) ob7 (.string pay2)
        have hre6 : w6.heap[w.heap.size + 1]? = _ := (by rw [hw8]; exact set_other (by omega) _ : w6.heap[w.heap.size + 1]? = W7.heap[w.heap.size + 1]?).trans rb7
        have old : ∀ k, k ≠ w.heap.size + 2 → k < w5.heap.size → w6.heap[k]? = w5.heap[k]? := fun k hk hk5 => by
          rw [hw8, set_other hk, HW7.out, set_other hk]; exact b6.block k hk5
        have hs68 : w5.heap.size ≤ w6.heap.size := by rw [hw8, HW7.out]; have := b6.size; simpa [World.setCell] using this
        have os6 : w6.os = w5.os ∧ w6.tape = w5.tape ∧ w6.output = w5.output := by rw [hw8, HW7.out]; exact ⟨b6.os, b6.tape, b6.output⟩
        go_upto_region 11 with fail
        rw [← hw8]
        clear hw8 HW7 p8 pl7 o8 of7 ol7 ob7 pb7 rb7 ob6 pb6 rb6 z6 b6 ob5 pb5 rb5
        obtain ⟨x0, x1, x2, x3, x4, x5, x6, x7, x8⟩ := cells9 ob8
        obtain ⟨z0, z1, z2, z3, z4, z5, z6, z7, z8⟩ := cells9 hre6
        have xl := lt_of_block ob8
        have zf := frozen9 hre6
        have zl := lt_of_block hre6
        obtain ⟨W9, hW9⟩ : ∃ W9, W9 = sets9 w6 (w.heap.size + 1) (.int .i64 m.kind) (.string g) (.bool m.any) (.slice av i c) (.int .i64 m.pub) (.int .i64 m.seq) (.int .i64 m.hops) (.slice va1 n1 vc1) (.string pay2) := ⟨_, rfl⟩
        have b9 : W9.heap[w.heap.size + 1]? = _ := (congrArg (fun W : World => W.heap[w.heap.size + 1]?) hW9).trans (sets9_box hre6)
        obtain ⟨y0, y1, y2, y3, y4, y5, y6, y7, y8⟩ := cells9 b9
        have o9 : ∀ k, k ≠ w.heap.size + 1 → W9.heap[k]? = w6.heap[k]? := fun k hk => by rw [hW9]; exact sets9_other hk
        have n9 : w6.heap.size ≤ W9.heap.size := by rw [hW9, sets9_size]; exact Nat.le_refl _
        have e9 : W9.os = w6.os ∧ W9.tape = w6.tape ∧ W9.output = w6.output := by rw [hW9]; exact sets9_rest
        have H9 : Hid ((((((((((w6.setCell ⟨w.heap.size + 1, 0, none⟩ (.int .i64 m.kind)).setCell ⟨w.heap.size + 1, 1, none⟩ (.string g)).setCell ⟨w.heap.size + 1, 2, none⟩ (.bool m.any)).setCell ⟨w.heap.size + 1, 3, none⟩ (.slice av i c)).setCell ⟨w.heap.size + 1, 4, none⟩ (.int .i64 m.pub)).setCell ⟨w.heap.size + 1, 5, none⟩ (.int .i64 m.seq)).setCell ⟨w.heap.size + 1, 6, none⟩ (.int .i64 m.hops)).setCell ⟨w.heap.size + 1, 7, none⟩ (.slice va1 n1 vc1)).setCell ⟨w.heap.size + 1, 8, none⟩ (.string pay2)) = W9) := hW9.symm
        clear hW9 b9
        go_wp2
        rw [H9.out]
        have hall : ∀ k, k ≠ w.heap.size + 2 → k ≠ w.heap.size + 1 → k < w5.heap.size → W9.heap[k]? = w5.heap[k]? := fun k h1 h2 h3 => (o9 k h2).trans (old k h1 h3)
        refine bodyPost_ret (v := .agg #[.int .i64 m.kind, .string g, .bool m.any, .slice av i c, .int .i64 m.pub, .int .i64 m.seq, .int .i64 m.hops, .slice va1 n1 vc1, .string pay2]) (by simp [results, Tryd.results5, go_sem, y0, y1, y2, y3, y4, y5, y6, y7, y8]) rfl ⟨av, c, va1, vc1, ?_, ?_, ?_, ⟨?_, ?_⟩, ?_⟩
        · show _ = Ending.returned (.agg #[.int .i64 m.kind, .string (cut m.group 50), .bool m.any, .slice av (cutT m.fl).length c, .int .i64 m.pub, .int .i64 m.seq, .int .i64 m.hops, .slice va1 ((m.vl.take 6).map cutV).length vc1, .string (cut m.pay 2100)])
          rw [hgg, HC.out.2, hn1, HP2.out]
        · have hr := H.out.row
          rw [HC.out.1, flatS] at hr
          have hr5 : W9.ownsRow (w.heap.size + 3) 9 1 (.slice av i c) i ((cutT m.fl).flatMap encS) := row_mv hr (fun k hk => by
            have h1 := hr.lt k hk
            exact (hall k (by omega) (by omega) (by omega)).trans (hb5.block k h1.2))
          have := HC.out.2
          show InRow 1 encS okS ByteArray.empty W9 av (cutT m.fl).length (cutT m.fl)
          refine (own_in encS okS 1 lenS ByteArray.empty (a := av) (c := c) (B := w.heap.size + 3) (e := 9) ?_ (fun f hf => ?_) (by omega)).1
          · rw [this]; exact hr5
          · unfold cutT at hf
            obtain ⟨f0, _, rfl⟩ := List.mem_map.1 hf
            unfold okS; have := cut_size f0 400; omega
        · have hr5 : W9.ownsRow wr.heap.size 51 2 (.slice va1 n1 vc1) n1 (((m.vl.take 6).map cutV).flatMap Vl.cells) := row_mv ho1 (fun k hk => by
            have h1 := ho1.lt k hk
            exact hall k (by omega) (by omega) h1.2)
          show InRow 2 Vl.cells Vl.ok vl0 W9 va1 ((m.vl.take 6).map cutV).length ((m.vl.take 6).map cutV)
          refine (own_in Vl.cells Vl.ok 2 Vl.cells_len vl0 (a := va1) (c := vc1) (B := wr.heap.size) (e := 51) ?_ (fun f hf => ?_) ?_).1
          · rw [hn1]; exact hr5
          · obtain ⟨f0, h0, rfl⟩ := List.mem_map.1 hf
            have hm := List.mem_of_mem_take h0
            obtain ⟨j, hj, hj2⟩ := List.getElem_of_mem hm
            obtain ⟨_, _, _, _, hok, _⟩ := HVr.out.get j hj
            have ej : m.vl.getD j vl0 = f0 := by rw [← hj2]; simp [List.getD, hj]
            rw [ej] at hok
            exact ⟨hok.1, by show (cut f0.str 50).size ≤ _; have := cut_size f0.str 50; omega⟩
          · rw [List.length_map, List.length_take]; omega
        · intro x hx
          have hr := H.out.row
          have := (hr.lt x.block (by rw [hx]; rfl)).1
          omega
        · intro x hx
          have := (ho1.lt x.block (by rw [hx]; rfl)).1
          omega
        · refine ⟨e9.1.trans (os6.1.trans (hb5.os.trans bw.os)), e9.2.1.trans (os6.2.1.trans (hb5.tape.trans bw.tape)), e9.2.2.trans (os6.2.2.trans (hb5.output.trans bw.output)), by have := bw.size; omega, fun k hk => ?_⟩
          exact (hall k (by omega) (by omega) (by omega)).trans ((hb5.block k (by omega)).trans (bw.block k hk))
end Go.Proofs.YtakfinccoffplaaDoor
