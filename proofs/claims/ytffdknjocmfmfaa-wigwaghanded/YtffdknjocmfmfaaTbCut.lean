/- wigwaglaw13.Cut. -/
import Derived.Test.YtffdknjocmfmfaaTbAwake
import Derived.Test.YtffdknjocmfmfaaCut
import Derived.Deep.AppendLies
import Derived.Deep.RegionLaw
namespace Go.Proofs.Ytffdknjocmfmfaa
open Go.ChangeShapes Go.WideShapes Go.ChangeAt Go.RowKit
set_option linter.unusedVariables false

/-- At most 20 filters of at most 30 bytes. -/
def cutF (fs : List ByteArray) : List ByteArray := (fs.take 20).map (fun s => cut s 30)
structure CutS (w wr : World) (z : Nat) (gr : ByteArray) (ch : Int) (fa : Option Addr) (fl fc : Nat) (any : Bool) (till : Int) (fs : List ByteArray) (i : Nat) (v : Value) : Prop where
  b1 : wr.heap[w.heap.size]? = some (.cells #[.string gr, .int .i64 ch, .slice fa fl fc, .bool any, .int .i64 till] 32 (0, 0))
  b2 : wr.heap[w.heap.size + 1]? = some (.cells #[.string ⟨#[]⟩, .int .i64 0, .slice none 0 0, .bool false, .int .i64 0] 32 (0, 0))
  b3 : wr.heap[z]? = some (.cells #[.string (cut gr 30), .int .i64 ch, v, .bool any, .int .i64 till] 32 (0, 0))
  row : wr.ownsRow w.heap.size 9 1 v i (((fs.take i).map (fun s => cut s 30)).map Value.string)
  ap : ∀ b, v.ownBlock = some b → b ≠ w.heap.size ∧ b ≠ w.heap.size + 1 ∧ b ≠ z
  hz : w.heap.size + 1 < z
  bel : Below w.heap.size w wr

theorem CutS.step {w wr w6 : World} {z : Nat} {gr : ByteArray} {ch : Int} {fa : Option Addr} {fl fc : Nat} {any : Bool} {till : Int} {fs : List ByteArray} {i c gg cap : Nat} {av : Option Addr} {t : ByteArray} (H : CutS w wr z gr ch fa fl fc any till fs i (.slice av i c))
    (hown : w6.ownsRow w.heap.size 9 1 (.slice (some ⟨gg, 0, none⟩) (i + 1) cap) (i + 1) (((fs.take i).map (fun s => cut s 30)).map Value.string ++ [.string t]))
    (hg : (wr.drew.alloc (.cells #[.string t] 9)).grownBy w6 (Value.slice av i c).ownBlock) (hat : (Value.slice av i c).ownBlock = some gg ∨ gg = wr.heap.size + 1) (hst : (fs.take (i + 1)).map (fun s => cut s 30) = (fs.take i).map (fun s => cut s 30) ++ [t]) :
    CutS w (w6.setCell ⟨z, 2, none⟩ (.slice (some ⟨gg, 0, none⟩) (i + 1) cap)) z gr ch fa fl fc any till fs (i + 1) (.slice (some ⟨gg, 0, none⟩) (i + 1) cap) := by
  have hl1 := lt_blk H.b1
  have hl2 := lt_blk H.b2
  have hl3 := lt_blk H.b3
  have hz := H.hz
  have hbk : ∀ k, k < wr.heap.size → (Value.slice av i c).ownBlock ≠ some k → w6.heap[k]? = wr.heap[k]? := fun k hk hne =>
    (hg.block k (by simp; omega) (fun e => hne e.symm)).trans (Below.heap_alloc wr.drew _ k hk)
  have hgg : gg ≠ w.heap.size ∧ gg ≠ w.heap.size + 1 ∧ gg ≠ z := by
    rcases hat with q | q
    · exact H.ap gg q
    · subst q; refine ⟨?_, ?_, ?_⟩ <;> omega
  refine ⟨?_, ?_, ?_, ?_, fun b hb => ?_, hz, ?_⟩
  · rw [setCell_heap (by omega)]; exact (hbk _ hl1 (fun e => (H.ap _ e).1 rfl)).trans H.b1
  · rw [setCell_heap (by omega)]; exact (hbk _ hl2 (fun e => (H.ap _ e).2.1 rfl)).trans H.b2
  · have h3 := (hbk _ hl3 (fun e => (H.ap _ e).2.2 rfl)).trans H.b3
    simp only [World.setCell, Array.getElem?_modify]; rw [h3]; simp
  · rw [hst, List.map_append]
    exact row_atJ hown (fun k hk => setCell_heap (by simp [Value.ownBlock] at hk; omega) _)
  · simp [Value.ownBlock] at hb; rw [← hb]; exact hgg
  · refine H.bel.trans ⟨hg.os, hg.tape, hg.output, ?_, fun k hk => ?_⟩
    · have := hg.size; simp at this; simp [World.setCell]; omega
    · rw [setCell_heap (by omega)]
      exact hbk k (by have := H.bel.size; omega) (fun e => by have := (H.row.lt k e).1; omega)
theorem cut_take {fs : List ByteArray} {i fl : Nat} (hl : fs.length = fl) (h : ¬ (i < fl ∧ i < 20)) (h1 : i ≤ fl) (h2 : i ≤ 20) : (fs.take i).map (fun s => cut s 30) = cutF fs := by
  unfold cutF
  by_cases q : i = 20
  · rw [q]
  · have : i = fl := by omega
    rw [List.take_of_length_le (by omega), List.take_of_length_le (by omega)]

set_option maxRecDepth 100000 in
set_option maxHeartbeats 4000000 in
theorem cut13_any (gr : ByteArray) (ch : Int) (fa : Option Addr) (fl fc : Nat) (any : Bool) (till : Int) (fs : List ByteArray) (w : World) (hf : StrIn w fa fl fs) (hg : gr.size ≤ maxLen) (hfs : ∀ s ∈ fs, s.size ≤ maxLen) (hfl : fl ≤ maxLen) :
    Calls Try.prog 6 #[.agg #[.string gr, .int .i64 ch, .slice fa fl fc, .bool any, .int .i64 till]] w fun e w' =>
      ∃ a' n' c', e = .returned (.agg #[.string (cut gr 30), .int .i64 ch, .slice a' n' c', .bool any, .int .i64 till]) ∧ StrIn w' a' n' (cutF fs) ∧ n' ≤ 20 ∧ Below w.heap.size w w' := by
  obtain ⟨i0, hi, hz0, hz1, hz2⟩ := infoStr_parts
  have HF : Hid (StrIn w fa fl fs) := hf
  have HG : Hid _ := hfs
  obtain ⟨W0, hW0⟩ : ∃ W0, W0 = (w.alloc (.cells #[.string gr, .int .i64 ch, .slice fa fl fc, .bool any, .int .i64 till] 32)).alloc (.cells #[.string ⟨#[]⟩, .int .i64 0, .slice none 0 0, .bool false, .int .i64 0] 32) := ⟨_, rfl⟩
  have k1 : W0.heap[w.heap.size]? = some (.cells #[.string gr, .int .i64 ch, .slice fa fl fc, .bool any, .int .i64 till] 32 (0, 0)) := by
    rw [hW0, Below.heap_alloc _ _ _ (by simp)]; exact heap_alloc_new w _
  have k2 : W0.heap[w.heap.size + 1]? = some (.cells #[.string ⟨#[]⟩, .int .i64 0, .slice none 0 0, .bool false, .int .i64 0] 32 (0, 0)) := by
    rw [hW0]; have := heap_alloc_new (w.alloc (.cells #[.string gr, .int .i64 ch, .slice fa fl fc, .bool any, .int .i64 till] 32)) (.cells #[.string ⟨#[]⟩, .int .i64 0, .slice none 0 0, .bool false, .int .i64 0] 32); simpa using this
  have bw : Below w.heap.size w W0 := by rw [hW0]; exact ((Below.refl _ _).alloc (Nat.le_refl _) _).alloc (by simp) _
  have y0 : W0.cell? ⟨w.heap.size, 0, none⟩ = some (.string gr) := by simp [World.cell?, k1]
  have y1 : W0.cell? ⟨w.heap.size, 1, none⟩ = some (.int .i64 ch) := by simp [World.cell?, k1]
  have y3 : W0.cell? ⟨w.heap.size, 3, none⟩ = some (.bool any) := by simp [World.cell?, k1]
  have y4 : W0.cell? ⟨w.heap.size, 4, none⟩ = some (.int .i64 till) := by simp [World.cell?, k1]
  have yl := lt_blk k1
  have hz2' : W0.heap.size = w.heap.size + 2 := by rw [hW0]; simp
  have HK : Hid _ := (⟨k1, k2, bw⟩ : _ ∧ _ ∧ _)
  have HZ : Hid _ := hz2'
  clear hf hfs k1 k2 bw hz2'
  go_enter Try.func6, Try.ntmps6
  go_upto_region 1 with fail
  rw [← hW0]
  clear hW0
  go_cut [3] (fun v wx => ∃ z, v = .pointer (some ⟨z, 0, none⟩) ∧ Hid (CutS w wx z gr ch fa fl fc any till fs 0 (.slice none 0 0)))
  case first =>
    go_region_held3 (fun w' => w'.cell? ⟨w.heap.size, 0, none⟩ = some (.string gr) ∧ w'.cell? ⟨w.heap.size, 1, none⟩ = some (.int .i64 ch) ∧ w'.cell? ⟨w.heap.size, 3, none⟩ = some (.bool any) ∧ w'.cell? ⟨w.heap.size, 4, none⟩ = some (.int .i64 till))
      (first
        | go_keep
        | assumption)
      (first
        | (go_at_call 18; refine (cut_any gr 30 _ hg).mono ?_; rintro e w' ⟨rfl, hw'⟩; subst w'))
    all_goals (try go_wp2_with fail)
    all_goals go_meet
    all_goals
      refine ⟨_, rfl, (⟨?_, ?_, ?_, World.ownsRow_nil _ _ _ _, (fun b hb => by simp [Value.ownBlock] at hb), by have := HZ.out; simp; omega, ?_⟩ : CutS _ _ _ _ _ _ _ _ _ _ _ _ _)⟩
      · exact (Below.heap_alloc W0 _ _ (by have := HZ.out; omega)).trans HK.out.1
      · exact (Below.heap_alloc W0 _ _ (by have := HZ.out; omega)).trans HK.out.2.1
      · exact heap_alloc_new W0 _
      · exact HK.out.2.2.trans ⟨rfl, rfl, rfl, by simp, fun k hk => Below.heap_alloc W0 _ _ (by have := HZ.out; omega)⟩
  case rest =>
    obtain ⟨z, rfl, H0⟩ := hcut
    rename World => w0
    clear y0 y1 y3 y4 yl HK HZ
    go_wp2
    go_loopg [4] 20 (fun kx s wr => ∃ (i c : Nat) (av : Option Addr), s = .int .i64 i ∧ i ≤ fl ∧ i ≤ 20 ∧ kx = 20 - i ∧ Hid (CutS w wr z gr ch fa fl fc any till fs i (.slice av i c)))
    case atStart => exact ⟨0, 0, none, rfl, Nat.zero_le _, by omega, rfl, H0⟩
    case round =>
      obtain ⟨i, c, av, rfl, hil, hi20, rfl, H⟩ := hrel
      rename World => wr
      clear H0
      have d2 : wr.cell? ⟨w.heap.size, 2, none⟩ = some (.slice fa fl fc) := by simp [World.cell?, H.out.b1]
      have dl := lt_blk H.out.b1
      have e2 : wr.cell? ⟨z, 2, none⟩ = some (.slice av i c) := by simp [World.cell?, H.out.b3]
      have el := lt_blk H.out.b3
      have hi0 : (0 : Int) ≤ (i : Int) := Int.natCast_nonneg _
      unfold maxLen at hfl
      by_cases hlt : i < fl ∧ i < 20
      · obtain ⟨hl1, hl2⟩ := hlt
        have hi1 : (i : Int) < (fl : Int) := by omega
        have hi2 : (i : Int) < 20 := by omega
        obtain ⟨b, o, ha, hb, hc⟩ := HF.out.2.resolve_left (by omega)
        subst ha
        have hbw : b < wr.heap.size := by have := H.out.bel.size; omega
        have hci : wr.cell? ⟨b, o + i, none⟩ = some (.string (fs.getD i ByteArray.empty)) := (H.out.bel.cell (p := ⟨b, o + i, none⟩) hb).trans (hc i hl1)
        have hfl' : i < fs.length := by have := HF.out.1; omega
        have hss : (fs.getD i ByteArray.empty).size ≤ maxLen := HG.out _ (getD_memL _ fs i hfl')
        have hstep : (fs.take (i + 1)).map (fun s => cut s 30) = (fs.take i).map (fun s => cut s 30) ++ [cut (fs.getD i ByteArray.empty) 30] := by
          rw [List.take_succ_eq_append_getElem hfl', List.map_append, getD_getElemL ByteArray.empty fs i hfl']; rfl
        obtain ⟨s, hs⟩ : ∃ s, s = fs.getD i ByteArray.empty := ⟨_, rfl⟩
        rw [← hs] at hci hss hstep
        have HST : Hid _ := hstep
        clear hs hstep hc
        obtain ⟨t, ht⟩ : ∃ t, t = cut s 30 := ⟨_, rfl⟩
        have HT : Hid (cut s 30 = t) := ht.symm
        clear ht
        have hrow := H.out.row
        go_upto_region 5 with fail
        go_region_law
          (first
            | (refine step_append_lies _ (by rfl) _ _ _ (by rfl) w.heap.size 9 i0 _ 1 16 Try.underlying30 hi hz0 hz1 hz2 rfl (by omega) _ _ _ (by rfl) (row_atJ (w' := wr.drew.alloc (.cells #[.string t] 9)) hrow (fun k hk => Below.heap_alloc wr.drew _ _ (hrow.lt k hk).2))
                ⟨wr.heap.size, 0, none⟩ 1 1 [.string t] (by rfl) (by rfl) (World.news_of_block (cs := #[.string t]) (t := 9) (fr := (0, 0)) (heap_alloc_new wr.drew _)) (by simp [Value.oneCell'])
                (by omega) (by unfold maxLen; omega) (by omega) (by have := H.out.bel.size; simp; omega) (wr.heap.size + 1) (by simp) ?_; intro gg cap w6 hown1 hgrow hat hlt3
               have hb3 : w6.heap[z]? = some (.cells #[.string (cut gr 30), .int .i64 ch, .slice av i c, .bool any, .int .i64 till] 32 (0, 0)) := (hgrow.block z (by simp; omega) (fun e => (H.out.ap z e.symm).2.2 rfl)).trans ((Below.heap_alloc wr.drew _ z el).trans H.out.b3)
               have hf2 : w6.frozen? ⟨z, 2, none⟩ = false := by simp [World.frozen?, hb3]
               have hk1 : w6.cell? ⟨z, 2, none⟩ = some (.slice av i c) := by simp [World.cell?, hb3]
               have hl2' := lt_blk hb3)
            | (go_simp; go_at_call 18; refine (cut_any s 30 _ hss).mono ?_; rintro e w' ⟨rfl, hw'⟩; subst w'; rw [HT.out]))
        all_goals
          have HN : Hid (CutS w (w6.setCell ⟨z, 2, none⟩ (.slice (some ⟨gg, 0, none⟩) (i + 1) cap)) z gr ch (some ⟨b, o, none⟩) fl fc any till fs (i + 1) (.slice (some ⟨gg, 0, none⟩) (i + 1) cap)) := H.out.step hown1 hgrow hat (by rw [HST.out, HT.out])
          clear hown1 hgrow hat hlt3 hb3 hf2 hk1 hl2'
          go_wp2
          go_roundg (20 - (i + 1))
          case measure => omega
          case rel => exact ⟨i + 1, cap, _, by go_num, by omega, by omega, rfl, HN⟩
      · have hor : (True ∧ ¬ (i : Int) < (fl : Int)) ∨ ((i : Int) < (fl : Int) ∧ ¬ (i : Int) < 20) := by
          by_cases q : (i : Int) < (fl : Int)
          · exact .inr ⟨q, by omega⟩
          · exact .inl ⟨trivial, q⟩
        have HC : Hid ((fs.take i).map (fun s => cut s 30) = cutF fs) := cut_take HF.out.1 hlt hil hi20
        clear hlt
        have e0 : wr.cell? ⟨z, 0, none⟩ = some (.string (cut gr 30)) := by simp [World.cell?, H.out.b3]
        have e1 : wr.cell? ⟨z, 1, none⟩ = some (.int .i64 ch) := by simp [World.cell?, H.out.b3]
        have e3 : wr.cell? ⟨z, 3, none⟩ = some (.bool any) := by simp [World.cell?, H.out.b3]
        have e4 : wr.cell? ⟨z, 4, none⟩ = some (.int .i64 till) := by simp [World.cell?, H.out.b3]
        have g0 : wr.cell? ⟨w.heap.size + 1, 0, none⟩ = some (.string ⟨#[]⟩) := by simp [World.cell?, H.out.b2]
        have g1 : wr.cell? ⟨w.heap.size + 1, 1, none⟩ = some (.int .i64 0) := by simp [World.cell?, H.out.b2]
        have g2 : wr.cell? ⟨w.heap.size + 1, 2, none⟩ = some (.slice none 0 0) := by simp [World.cell?, H.out.b2]
        have g3 : wr.cell? ⟨w.heap.size + 1, 3, none⟩ = some (.bool false) := by simp [World.cell?, H.out.b2]
        have g4 : wr.cell? ⟨w.heap.size + 1, 4, none⟩ = some (.int .i64 0) := by simp [World.cell?, H.out.b2]
        have gf : ∀ o, wr.frozen? ⟨w.heap.size + 1, o, none⟩ = false := fun o => by simp [World.frozen?, H.out.b2]
        have gl := lt_blk H.out.b2
        have hzne : z ≠ w.heap.size + 1 := by have := H.out.hz; omega
        generalize hcg : cut gr 30 = cg at e0 H
        have HCG : Hid (cut gr 30 = cg) := hcg
        clear hcg
        rcases hor with ⟨hor', hor⟩ | ⟨hor', hor⟩
        all_goals
          go_wp2
          refine bodyPost_ret (v := .agg #[.string cg, .int .i64 ch, .slice av i c, .bool any, .int .i64 till]) (by simp [results, Try.results6, go_sem, g0, g1, g2, g3, g4]) rfl ?_
          have hln : ((fs.take i).map (fun s => cut s 30)).length = i := by rw [List.length_map, List.length_take, HF.out.1]; omega
          have hst := strIn_own H.out.row hln.symm
          rw [HC.out] at hst
          refine ⟨av, i, ⟨c, by rw [HCG.out]⟩, ?_, hi20, ?_⟩
          · refine hst.at (by simp [World.setCell]) (fun b hb => ?_)
            have hne : b.block ≠ w.heap.size + 1 := (H.out.ap b.block (by rw [hb]; rfl)).2.1
            exact (setCell_heap hne _).trans ((setCell_heap hne _).trans ((setCell_heap hne _).trans ((setCell_heap hne _).trans (setCell_heap hne _))))
          · iterate 5 refine Below.setCell ?_ (Nat.le_succ _) _
            exact H.out.bel
end Go.Proofs.Ytffdknjocmfmfaa
