/- table.Children, walked; the document's Texts. -/
import Derived.Test.YtffdknjocmfmfaaTbChild
namespace Go.Proofs.Ytffdknjocmfmfaa
open Go.ChangeShapes Go.WideShapes Go.ChangeAt Go.RowKit
set_option linter.unusedVariables false

def ofG (g : ByteArray) (x : Ep) : Bool := x.gr.toList == g.toList
theorem fil_snoc {Y Z : List Ep} {x y : Ep} (h : Y.map Ep.core = Z.map Ep.core) (hxy : y.core = x.core) : (Y ++ [y]).map Ep.core = (Z ++ [x]).map Ep.core := by simp [h, hxy]

set_option maxRecDepth 100000 in
set_option maxHeartbeats 4000000 in
theorem children_any (B r : Nat) (v : Value) (X : List Ep) (g : ByteArray) (w : World) (h : Tb w B r v X) :
    Calls Try.prog 10 #[.pointer (some ⟨r, 0, none⟩), .string g] w fun e w' => ∃ v' Y, e = .returned v' ∧ ERow w w' v' Y ∧ Y.map Ep.core = (X.filter (ofG g)).map Ep.core := by
  obtain ⟨i0, hi, hz0, hz1, hz2⟩ := infoEnt_parts
  obtain ⟨a, cp, hv⟩ := h.shape
  subst hv
  have hle := h.le
  obtain ⟨n, hn⟩ : ∃ n, n = X.length := ⟨_, rfl⟩
  rw [← hn] at h hle
  have HN : Hid (n = X.length) := hn
  have hent : EntIn w a n X := by rw [hn]; exact Tb.ent (by rw [← hn]; exact h)
  have HE : Hid (EntIn w a n X) := hent
  have HT : Hid _ := h
  have x0 := h.cell
  have xl := h.lt
  clear h hent hn
  go_enter Try.func10, Try.ntmps10
  go_wp2
  go_loopg [5, 13] n (fun kx s5 s13 wr => ∃ (i m c : Nat) (av : Option Addr) (Y : List Ep), s13 = .int .i64 i ∧ i ≤ n ∧ kx = n - i ∧ s5 = .slice av m c ∧ m ≤ i ∧ Hid (m = Y.length ∧ ERow w wr (.slice av m c) Y ∧ Y.map Ep.core = ((X.take i).filter (ofG g)).map Ep.core))
  case atStart => exact ⟨0, 0, 0, none, [], rfl, Nat.zero_le _, rfl, rfl, Nat.le_refl _, (⟨rfl, ERow.nil (Below.refl _ _), rfl⟩ : 0 = List.length _ ∧ ERow _ _ _ _ ∧ _)⟩
  case round =>
    obtain ⟨i, m, c, av, Y, rfl, hin, rfl, rfl, hmi, H⟩ := hrel
    by_cases hlt : i < n
    · obtain ⟨b, o, ha, hb, hs, hln, c0, c1, c2, c3, c4⟩ := (HE.out.below H.out.2.1.bel).at hlt
      subst ha
      have hft := filter_take_succ (ofG g) X i (by rw [← HN.out]; exact hlt)
      obtain ⟨x, hx⟩ : ∃ x, x = X.getD i ep0 := ⟨_, rfl⟩
      rw [← hx] at hs hln c0 c1 c2 c3 c4 hft
      clear hx
      obtain ⟨gr, ch, fa, fl, fc, any, till, fs⟩ := x
      simp only at hs hln c0 c1 c2 c3 c4
      have hi0 : (0 : Int) ≤ (i : Int) := Int.natCast_nonneg _
      have hi1 : (i : Int) < (n : Int) := by omega
      obtain ⟨w1, hw1⟩ : ∃ w1, w1 = wr.alloc (.cells #[.string gr, .int .i64 ch, .slice fa fl fc, .bool any, .int .i64 till] 32) := ⟨_, rfl⟩
      have hbx1 : w1.heap[wr.heap.size]? = some (.cells #[.string gr, .int .i64 ch, .slice fa fl fc, .bool any, .int .i64 till] 32 (0, 0)) := by rw [hw1]; exact heap_alloc_new wr _
      have b01 : Below wr.heap.size wr w1 := by rw [hw1]; exact (Below.refl _ _).alloc (Nat.le_refl _) _
      have HR0 : Hid (m = Y.length ∧ ERow w wr (.slice av m c) Y) := ⟨H.out.1, H.out.2.1⟩
      have HY : Hid (Y.map Ep.core = ((X.take i).filter (ofG g)).map Ep.core) := H.out.2.2
      have HS1 : Hid (StrIn w1 fa fl fs) := hs.below (Nat.le_refl _) b01
      clear hs H
      by_cases hg : gr.toList = g.toList
      · have hg' : (gr.toList == g.toList) = true := by simpa using hg
        have HF : Hid ((X.take (i + 1)).filter (ofG g) = (X.take i).filter (ofG g) ++ [⟨gr, ch, fa, fl, fc, any, till, fs⟩]) := by
          show _ = _
          rw [hft]; simp [ofG, hg]
        clear hft
        have hz1' : wr.heap.size < w1.heap.size := lt_blk hbx1
        go_wp2_with fail
        rw [← hw1]
        clear hw1 c0 c1 c2 c3 c4
        refine (clone_s fa fl fc fs w1 HS1.out hln).mono ?_
        rintro e w2 ⟨a2, c2, rfl, hs2, b12, hnew⟩
        have hbx2 : w2.heap[wr.heap.size]? = some (.cells #[.string gr, .int .i64 ch, .slice fa fl fc, .bool any, .int .i64 till] 32 (0, 0)) := (b12.block _ hz1').trans hbx1
        have d0 : w2.cell? ⟨wr.heap.size, 0, none⟩ = some (.string gr) := by simp [World.cell?, hbx2]
        have d1 : w2.cell? ⟨wr.heap.size, 1, none⟩ = some (.int .i64 ch) := by simp [World.cell?, hbx2]
        have d2 : w2.cell? ⟨wr.heap.size, 2, none⟩ = some (.slice fa fl fc) := by simp [World.cell?, hbx2]
        have d3 : w2.cell? ⟨wr.heap.size, 3, none⟩ = some (.bool any) := by simp [World.cell?, hbx2]
        have d4 : w2.cell? ⟨wr.heap.size, 4, none⟩ = some (.int .i64 till) := by simp [World.cell?, hbx2]
        have df : ∀ o, w2.frozen? ⟨wr.heap.size, o, none⟩ = false := fun o => by simp [World.frozen?, hbx2]
        have dl := lt_blk hbx2
        obtain ⟨w3, hw3⟩ : ∃ w3, w3 = w2.setCell ⟨wr.heap.size, 2, none⟩ (.slice a2 fl c2) := ⟨_, rfl⟩
        have b02 : Below wr.heap.size wr w3 := by rw [hw3]; exact (b01.trans (b12.mono (by omega))).setCell (p := ⟨wr.heap.size, 2, none⟩) (Nat.le_refl _) _
        have hR3 : ERow w (w3.alloc (.cells #[.string gr, .int .i64 ch, .slice a2 fl c2, .bool any, .int .i64 till] 32)) (.slice av m c) Y := HR0.out.2.below (b02.alloc b02.size _)
        have hz3 : w3.heap.size = w2.heap.size := by rw [hw3]; simp [World.setCell]
        have hs3 : StrIn (w3.alloc (.cells #[.string gr, .int .i64 ch, .slice a2 fl c2, .bool any, .int .i64 till] 32)) a2 fl fs := hs2.at (by simp; omega) (fun b hb => by
          rw [Below.heap_alloc _ _ _ (by rw [hz3]; exact (hnew b hb).2), hw3]
          exact setCell_heap (by have := (hnew b hb).1; omega) _)
        have HX : Hid (ERow w (w3.alloc (.cells #[.string gr, .int .i64 ch, .slice a2 fl c2, .bool any, .int .i64 till] 32)) (.slice av m c) Y ∧ StrIn (w3.alloc (.cells #[.string gr, .int .i64 ch, .slice a2 fl c2, .bool any, .int .i64 till] 32)) a2 fl fs ∧ ∀ b, a2 = some b → b.block < (w3.alloc (.cells #[.string gr, .int .i64 ch, .slice a2 fl c2, .bool any, .int .i64 till] 32)).heap.size ∧ (Value.slice av m c).ownBlock ≠ some b.block) := ⟨hR3, hs3, fun b hb => ⟨by have := (hnew b hb).2; simp; omega, fun e => by have h1 := (HR0.out.2.row.lt _ e).2; have h2 := (hnew b hb).1; omega⟩⟩
        have HB2 : Hid _ := b02
        have HW3 : Hid (w2.setCell ⟨wr.heap.size, 2, none⟩ (.slice a2 fl c2) = w3) := hw3.symm
        have hrow : (w3.alloc (.cells #[.string gr, .int .i64 ch, .slice a2 fl c2, .bool any, .int .i64 till] 32)).ownsRow w.heap.size 32 5 (.slice av m c) m (Y.flatMap Ep.cells) := by have := hR3.row; rw [← HR0.out.1] at this; exact this
        have HRow : Hid _ := hrow
        have hws : w.heap.size ≤ w3.heap.size := Nat.le_trans HR0.out.2.bel.size b02.size
        have HSRC : Hid _ := srcE w3 ⟨gr, ch, a2, fl, c2, any, till, fs⟩ w3.heap.size rfl
        simp only at HSRC
        rw [hz3] at HSRC
        clear hbx1 hbx2 hs2 b12 hnew hR3 hs3 b01 b02 hw3 hrow
        go_wp2_with (at_builtin; rw [HW3.out]; refine wpList_own_append5 _ rfl _ _ 22 22 rfl w.heap.size 32 i0 _ 64 Try.underlying22 hi hz0 hz1 hz2 rfl _ m (Y.flatMap Ep.cells) rfl HRow.out _ 1 (Ep.cells ⟨gr, ch, a2, fl, c2, any, till, fs⟩) rfl HSRC.out ?c3 ?c4 ?c5 ?_)
        case c3 => unfold maxLen; omega
        case c4 => omega
        case c5 => simp; omega
        intro v4 w4 ha4
        have hR4 := HX.out.1.app (x := ⟨gr, ch, a2, fl, c2, any, till, fs⟩) HX.out.2.1 hln HX.out.2.2 (by rw [← HR0.out.1]; exact ha4)
        obtain ⟨a4, c4, hv4⟩ := ha4.shape
        subst hv4
        have H4 : Hid (m + 1 = (Y ++ [(⟨gr, ch, a2, fl, c2, any, till, fs⟩ : Ep)]).length ∧ ERow w w4 (.slice a4 (m + 1) c4) (Y ++ [⟨gr, ch, a2, fl, c2, any, till, fs⟩]) ∧ (Y ++ [(⟨gr, ch, a2, fl, c2, any, till, fs⟩ : Ep)]).map Ep.core = ((X.take (i + 1)).filter (ofG g)).map Ep.core) := ⟨by simp [HR0.out.1], hR4, by rw [HF.out]; exact fil_snoc HY.out rfl⟩
        clear ha4 hR4
        go_wp2
        go_roundg (n - (i + 1))
        case measure => omega
        case rel => exact ⟨i + 1, m + 1, c4, a4, _, by go_num, by omega, rfl, rfl, by omega, H4⟩
      · have hg' : (gr.toList == g.toList) = false := by simpa using hg
        have HF : Hid ((X.take (i + 1)).filter (ofG g) = (X.take i).filter (ofG g)) := by
          show _ = _
          rw [hft]; simp [ofG, hg]
        have H4 : Hid (m = Y.length ∧ ERow w w1 (.slice av m c) Y ∧ Y.map Ep.core = ((X.take (i + 1)).filter (ofG g)).map Ep.core) := ⟨HR0.out.1, HR0.out.2.below b01, by rw [HF.out]; exact HY.out⟩
        rw [hw1] at H4
        clear hft hbx1 b01 HS1 hw1
        go_wp2
        go_roundg (n - (i + 1))
        case measure => omega
        case rel => exact ⟨i + 1, m, c, av, Y, by go_num, by omega, rfl, rfl, by omega, H4⟩
    · have hi1 : ¬ (i : Int) < (n : Int) := by omega
      have HF : Hid (Y.map Ep.core = (X.filter (ofG g)).map Ep.core) := by
        show _ = _
        rw [H.out.2.2, List.take_of_length_le (by rw [← HN.out]; omega)]
      go_wp2
      go_ret
      exact ⟨_, rfl, Y, H.out.2.1, HF.out⟩

/-- Two lists of texts, as the document has it. -/
def sameS (A B : List ByteArray) : Bool := A.map ByteArray.toList == B.map ByteArray.toList
set_option maxHeartbeats 1000000 in
theorem texts_any (a b : Option Addr) (m n c d : Nat) (A B : List ByteArray) (w : World) (ha : StrIn w a m A) (hb : StrIn w b n B) (hm : m ≤ 100000) (hn : n ≤ 100000) (hAB : A = B) :
    Calls Try.prog 14 #[.slice a m c, .slice b n d] w fun e w' => e = .returned (.bool true) ∧ Below w.heap.size w w' := by
  subst hAB
  have hmn : n = m := by rw [← ha.1, ← hb.1]
  subst hmn
  have HA : Hid (StrIn w a n A) := ha
  have HB : Hid (StrIn w b n A) := hb
  clear ha hb
  go_enter Try.func14, Try.ntmps14
  go_wp2
  go_loopw [13] (fun s wr => ∃ (j k : Nat), s = .int .i64 j ∧ j ≤ n ∧ wr = w.drewN k) (fun s _ => n - (intOf s).toNat)
  case atStart => exact ⟨0, 0, rfl, Nat.zero_le _, rfl⟩
  case round =>
    obtain ⟨j, k, rfl, hj, rfl⟩ := hrel
    by_cases hlt : j < n
    · obtain ⟨b1, o1, ha, hb1, hc1⟩ := HA.out.2.resolve_left (by omega)
      obtain ⟨b2, o2, hb, hb2, hc2⟩ := HB.out.2.resolve_left (by omega)
      subst ha hb
      have x1 : (w.drewN k).cell? ⟨b1, o1 + j, none⟩ = some (.string (A.getD j ByteArray.empty)) := hc1 j hlt
      have x2 : (w.drewN k).cell? ⟨b2, o2 + j, none⟩ = some (.string (A.getD j ByteArray.empty)) := hc2 j hlt
      have l1 : b1 < (w.drewN k).heap.size := hb1
      have l2 : b2 < (w.drewN k).heap.size := hb2
      clear hc1 hc2
      generalize A.getD j ByteArray.empty = s at x1 x2
      generalize hW : w.drewN k = W at *
      have hj0 : (0 : Int) ≤ (j : Int) := Int.natCast_nonneg _
      have hj1 : (j : Int) < (n : Int) := by omega
      have HW : Hid (w.drewN k = W) := hW
      clear hW
      go_wp2_with fail
      go_quiet (fail)
      go_wp2
      go_roundw
      case rel => exact ⟨j + 1, k + nq, by go_num, by omega, by rw [← HW.out]; simp [World.drewN, Nat.add_assoc]⟩
      case measure => simp [intOf]; omega
    · have hj1 : ¬ (j : Int) < (n : Int) := by omega
      go_wp2
      go_ret
      exact ⟨rfl, ⟨rfl, rfl, rfl, Nat.le_refl _, fun _ _ => rfl⟩⟩
end Go.Proofs.Ytffdknjocmfmfaa
