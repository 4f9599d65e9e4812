/- The document's reader (wigwagref06): str. -/
import Derived.Test.YtkncpojijfeahaaGreatDoorRefMk
import Derived.Test.YtkncpojijfeahaaGreatDoorFilStr
import Derived.Laws.OwnMore
namespace Go.Proofs.YtkncpojijfeahaaGreatDoor
open Go.ChangeShapes Go.WideShapes Go.ChangeAt Go.RowKit
set_option linter.unusedVariables false

theorem own_carryR {B : Nat} {w w' : World} {e : TypeId} {k n : Nat} {v : Value} {xs : List Value} (h : w.ownsRow B e k v n xs) (hb : Below w.heap.size w w') : w'.ownsRow B e k v n xs := by
  refine ⟨h.1, ?_⟩
  rcases h.2 with h1 | ⟨g', cap, cur, hv, hbg, hg, hr⟩
  · exact .inl h1
  · exact .inr ⟨g', cap, cur, hv, hbg, (hb.block g' (lt_of_block hg)).trans hg, hr⟩
/-- The place, the answer's block, and the bytes so far. -/
structure StR (w W : World) (s : ByteArray) (j : Nat) (v : Value) (acc : List UInt8) : Prop where
  sp : Sp w W s j false
  row : W.ownsRow (w.heap.size + 2) 5 1 v acc.length (acc.map cellB)
theorem StR.far0 {w W : World} {s : ByteArray} {j : Nat} {v : Value} {acc : List UInt8} (h : StR w W s j v acc) : v.ownBlock ≠ some w.heap.size := fun e => by have := (h.row.lt _ e).1; omega
theorem StR.far1 {w W : World} {s : ByteArray} {j : Nat} {v : Value} {acc : List UInt8} (h : StR w W s j v acc) : v.ownBlock ≠ some (w.heap.size + 1) := fun e => by have := (h.row.lt _ e).1; omega
theorem StR.le {w W : World} {s : ByteArray} {j : Nat} {v : Value} {acc : List UInt8} (h : StR w W s j v acc) : w.heap.size + 2 ≤ W.heap.size := lt_of_block h.sp.out
theorem StR.set1 {w W : World} {s : ByteArray} {j : Nat} {v : Value} {acc : List UInt8} (h : StR w W s j v acc) (i : Nat) : StR w (W.setCell ⟨w.heap.size, 1, none⟩ (.int .i64 (i : Int))) s i v acc :=
  ⟨h.sp.set1 i, ownsRow_setCell_other h.row (a := ⟨w.heap.size, 1, none⟩) h.far0 _⟩
theorem StR.start {w W : World} {s : ByteArray} {k : Nat} {b : Bool} (h : Sp w W s k b) (n : Nat) : StR w ((((W.setCell ⟨w.heap.size, 0, none⟩ (.string s)).setCell ⟨w.heap.size, 1, none⟩ (.int .i64 (n : Int))).setCell ⟨w.heap.size, 2, none⟩ (.bool false)).alloc (.cells #[] 5)) s n (.slice (some ⟨(((W.setCell ⟨w.heap.size, 0, none⟩ (.string s)).setCell ⟨w.heap.size, 1, none⟩ (.int .i64 (n : Int))).setCell ⟨w.heap.size, 2, none⟩ (.bool false)).heap.size, 0, none⟩) 0 0) [] :=
  ⟨(h.set3 n false).below ((Below.refl _ _).alloc (Nat.le_refl _) _), World.ownsRow_made _ #[] 0 (lt_of_block (h.set3 n false).out) (Nat.zero_le _) rfl⟩
theorem StR.app {w W W2 : World} {s : ByteArray} {j : Nat} {v v' : Value} {acc : List UInt8} {c : UInt8} {o : Obj} (h : StR w W s j v acc) (ha : Appended (w.heap.size + 2) 5 (W.alloc o) W2 v v' (acc.length + 1) (acc.map cellB ++ [cellB c])) : StR w W2 s j v' (acc ++ [c]) := by
  have hg := ha.grown
  have h1 : Below W.heap.size W (W.alloc o) := (Below.refl _ _).alloc (Nat.le_refl _) o
  have hs := h.sp.below h1
  have hle := h.le
  have hsz := h1.size
  refine ⟨⟨(hg.block _ (lt_of_block hs.box) (fun e => h.far0 e.symm)).trans hs.box, (hg.block _ (lt_of_block hs.out) (fun e => h.far1 e.symm)).trans hs.out, hs.bel.trans ⟨hg.os, hg.tape, hg.output, hg.size, fun k hk => hg.block k (by omega) (fun e => by have := (h.row.lt k e.symm).1; omega)⟩⟩, ?_⟩
  have := ha.row
  simpa using this
theorem src_byR (w : World) (c : UInt8) (x : Nat) (hx : x = w.heap.size) :
    Src Tryz.prog 1 232 (.slice (some ⟨x, 0, none⟩) 1 1) 1 [cellB c] (w.alloc (.cells #[.int .u8 (c.toNat : Int)] 5)) :=
  Src.ofSlice _ Tryz.underlying232 _ 1 1 _ rfl (fun j u hu => by
    subst hx
    have := World.news_of_block (cs := #[.int .u8 (c.toNat : Int)]) (t := 5) (fr := (0, 0)) (heap_alloc_new w _) j u (by simpa [cellB] using hu)
    exact this) (by simp [cellB, Value.oneCell'])
theorem conv_ownR {W : World} {B : Nat} {v : Value} {acc : List UInt8} (hrow : W.ownsRow B 5 1 v acc.length (acc.map cellB)) : (convert 232 9 v).run Tryz.prog W = .ok (.string (ba acc)) W := by
  rcases hrow.2 with ⟨hv, hn⟩ | ⟨g, cap, cur, hv, hbg, hg, hnc, hcm, hcs, htake⟩
  · have hl : acc = [] := List.eq_nil_of_length_eq_zero hn
    subst hl
    subst hv
    exact run_convert_bytes_nil (P := Tryz.prog) W 232 5 Tryz.underlying232 Tryz.underlying5 0 0 9 Tryz.underlying9
  · rw [hv]
    exact run_convert_bytes_back (P := Tryz.prog) W 232 9 5 ⟨g, 0, none⟩ cap acc Tryz.underlying232 Tryz.underlying5 Tryz.underlying9 (fun i hi => by
      have := hrow.cells (g := g) (by rw [hv]; rfl) i (cellB acc[i]) (by simp [hi])
      exact this)

set_option maxRecDepth 100000 in
set_option maxHeartbeats 2000000 in
theorem rstr_t (s : ByteArray) (k : Nat) (w : World) : Calls Tryz.prog 102 #[.agg #[.string s, .int .i64 (k : Int), .bool true]] w fun e w' => e = .returned (.tuple #[.agg #[.string s, .int .i64 (k : Int), .bool true], .string ⟨#[]⟩]) ∧ Below w.heap.size w w' := by
  have HS : Hid (Sp w _ s k true) := Sp.init w s k true
  go_enter Tryz.func102, Tryz.ntmps102
  go_wp2_with fail
  refine Calls.mono (rmark_t s ⟨#[34]⟩ k _) ?_
  rintro e W1 ⟨rfl, b1⟩
  have S1 : Hid (Sp w W1 s k true) := HS.out.below b1
  have S2 : Hid (Sp w _ s k true) := (S1.out.set3 k true).below ((Below.refl _ _).alloc (Nat.le_refl _) (.cells #[] 5))
  obtain ⟨c0, c1, c2, cf, cl, d0, d1, d2, df, dl⟩ := S1.out.cells
  clear b1 HS S1
  go_wp2_with fail
  clear c0 c1 c2 cf cl d0 d1 d2 df dl
  go_loopg [] 0 (fun kx wr => kx = 0 ∧ Hid (Sp w wr s k true))
  case atStart => exact ⟨rfl, S2⟩
  case round =>
    obtain ⟨hkx, I⟩ := hrel
    obtain ⟨c0, c1, c2, cf, cl, d0, d1, d2, df, dl⟩ := I.out.cells
    have HB : Hid _ := I.out.done (.string s) (.int .i64 (k : Int)) (.bool true)
    go_wp2
    exact bodyPost_ret (v := .tuple #[.agg #[.string s, .int .i64 (k : Int), .bool true], .string ⟨#[]⟩]) (by simp [results, Tryz.results102, go_sem, *]) rfl ⟨rfl, HB.out⟩

set_option maxRecDepth 100000 in
set_option maxHeartbeats 8000000 in
theorem rstr_f (s : ByteArray) (k : Nat) (w : World) (hk : k ≤ s.size) (hs : s.size ≤ 1000) : Calls Tryz.prog 102 #[.agg #[.string s, .int .i64 (k : Int), .bool false]] w fun e w' => RdV e s (rStr (dr s k)) (.string (wdV (rStr (dr s k)))) ∧ Below w.heap.size w w' := by
  obtain ⟨i0, hi, hz0, hz1, hz2⟩ := info_parts Tryz.infoU8
  have HS : Hid (Sp w _ s k false) := Sp.init w s k false
  have hmk := fun W => rmark_f s ⟨#[34]⟩ k W hk hs (by decide) (by decide)
  have em : (⟨#[34]⟩ : ByteArray).data.toList = [34] := rfl
  rw [em] at hmk
  have HMK : Hid _ := hmk
  clear hmk em
  have HMS : Hid ((rMark [34] (dr s k)).left <:+ dr s k) := rMark_suf _ _
  cases hres : rMark [34] (dr s k) with
  | fail ee r =>
    rw [hres] at HMK HMS
    have HW : Hid (rStr (dr s k) = .fail ee r) := by
      show rStr (dr s k) = .fail ee r
      unfold rStr; rw [hres]
    obtain ⟨n, hn⟩ : ∃ n, n = pos s r := ⟨_, rfl⟩
    have HMK2 : Hid (∀ W, Calls Tryz.prog 103 #[.agg #[.string s, .int .i64 (k : Int), .bool false], .string ⟨#[34]⟩] W fun e w' => e = .returned (.agg #[.string s, .int .i64 (n : Int), .bool true]) ∧ Below W.heap.size W w') := by
      rw [Hid, hn]; exact HMK.out
    have HN : Hid (n = pos s r) := hn
    clear hn HMK hres HMS
    go_enter Tryz.func102, Tryz.ntmps102
    go_wp2_with fail
    refine Calls.mono (HMK2.out _) ?_
    rintro e W1 ⟨rfl, b1⟩
    have S1 : Hid (Sp w W1 s k false) := HS.out.below b1
    have S2 : Hid (Sp w _ s n true) := (S1.out.set3 n true).below ((Below.refl _ _).alloc (Nat.le_refl _) (.cells #[] 5))
    obtain ⟨c0, c1, c2, cf, cl, d0, d1, d2, df, dl⟩ := S1.out.cells
    clear b1 HS S1
    go_wp2_with fail
    clear c0 c1 c2 cf cl d0 d1 d2 df dl
    go_loopg [] 0 (fun kx wr => kx = 0 ∧ Hid (Sp w wr s n true))
    case atStart => exact ⟨rfl, S2⟩
    case round =>
      obtain ⟨hkx, I⟩ := hrel
      obtain ⟨c0, c1, c2, cf, cl, d0, d1, d2, df, dl⟩ := I.out.cells
      have HB : Hid _ := I.out.done (.string s) (.int .i64 (n : Int)) (.bool true)
      go_wp2
      refine bodyPost_ret (v := .tuple #[.agg #[.string s, .int .i64 (n : Int), .bool true], .string ⟨#[]⟩]) (by simp [results, Tryz.results102, go_sem, *]) rfl ⟨?_, HB.out⟩
      rw [HW.out, HN.out]
      rfl
  | ok u r =>
    rw [hres] at HMK HMS
    obtain ⟨n, hn⟩ : ∃ n, n = pos s r := ⟨_, rfl⟩
    have hnd : dr s n = r := by rw [hn]; exact dr_posd HMS.out
    have hnl : n ≤ s.size := by rw [hn]; exact pos_le _ _
    have HW : Hid (rStr (dr s k) = rChars [] (dr s n)) := by
      show rStr (dr s k) = rChars [] (dr s n)
      unfold rStr; rw [hres, hnd]
    have HMK2 : Hid (∀ W, Calls Tryz.prog 103 #[.agg #[.string s, .int .i64 (k : Int), .bool false], .string ⟨#[34]⟩] W fun e w' => e = .returned (.agg #[.string s, .int .i64 (n : Int), .bool false]) ∧ Below W.heap.size W w') := by
      rw [Hid, hn]; exact HMK.out
    clear hn HMK hres HMS hnd
    go_enter Tryz.func102, Tryz.ntmps102
    go_wp2_with fail
    refine Calls.mono (HMK2.out _) ?_
    rintro e W1 ⟨rfl, b1⟩
    have S1 : Hid (Sp w W1 s k false) := HS.out.below b1
    have S2 : Hid (StR w _ s n _ []) := StR.start S1.out n
    obtain ⟨c0, c1, c2, cf, cl, d0, d1, d2, df, dl⟩ := S1.out.cells
    clear b1 HS S1 HMK2
    go_wp2_with fail
    clear c0 c1 c2 cf cl d0 d1 d2 df dl
    go_loopg [4] (s.size - n) (fun kx s4 wr => ∃ (j : Nat) (acc : List UInt8) (m : Nat) (a : Option Addr) (c : Nat), s4 = .slice a m c ∧ j ≤ s.size ∧ m ≤ j ∧ kx = s.size - j ∧ Hid (m = acc.length ∧ StR w wr s j (.slice a m c) acc ∧ rStr (dr s k) = rChars acc (dr s j)))
    case atStart => exact ⟨n, [], 0, _, 0, rfl, hnl, Nat.zero_le _, rfl, (⟨rfl, by simpa using S2.out, HW.out⟩ : _ ∧ _ ∧ _)⟩
    case round =>
      obtain ⟨j, acc, m, a, c, rfl, hj, hmj, hkx, I⟩ := hrel
      obtain ⟨c0, c1, c2, cf, cl, d0, d1, d2, df, dl⟩ := I.out.2.1.sp.cells
      have hle := I.out.2.1.le
      by_cases hlj : j < s.size
      · have hdc : decide (s.size ≤ j) = false := by simpa using hlj
        have HCO : Hid (dr s j = s[j] :: dr s (j + 1)) := dr_cons s j hlj
        obtain ⟨q, hq⟩ : ∃ q : Nat, q = j + 1 := ⟨_, rfl⟩
        have hqi : (j : Int) + 1 = (q : Int) := by omega
        have HQ : Hid (q = j + 1) := hq
        have hqs : q ≤ s.size := by omega
        rw [← hq] at HCO
        clear hq
        by_cases h34 : (s[j].toNat : Int) = 34
        · have HE : Hid (rStr (dr s k) = .ok acc (dr s q)) := by
            show rStr (dr s k) = .ok acc (dr s q)
            rw [I.out.2.2, HCO.out]; exact chars_q _ _ _ (by omega)
          have b34 : ((s[j].toNat : Int) == 34) = true := by simpa using h34
          go_upto_region 9 with fail
          have I2 : Hid (StR w (wr.setCell ⟨w.heap.size, 1, none⟩ (.int .i64 (q : Int))) s q (.slice a m c) acc) := I.out.2.1.set1 q
          generalize wr.setCell ⟨w.heap.size, 1, none⟩ (.int .i64 (q : Int)) = V at I2 ⊢
          have HM : Hid (m = acc.length) := I.out.1
          clear c0 c1 c2 cf cl d0 d1 d2 df dl I
          obtain ⟨c0, c1, c2, cf, cl, d0, d1, d2, df, dl⟩ := I2.out.sp.cells
          have hcv0 : ∀ W, W.ownsRow (w.heap.size + 2) 5 1 (.slice a m c) acc.length (acc.map cellB) → (convert 232 9 (.slice a m c)).run Tryz.prog W = .ok (.string (ba acc)) W := fun W h => conv_ownR h
          have hrw : V.drew.ownsRow (w.heap.size + 2) 5 1 (.slice a m c) acc.length (acc.map cellB) := I2.out.row.drew
          have hcA := hcv0 _ hrw
          have hcB := hcv0 _ (World.ownsRow.drew (ownsRow_setCell_other (ownsRow_setCell_other (ownsRow_setCell_other I2.out.row (a := ⟨w.heap.size + 1, 0, none⟩) I2.out.far1 (.string s)) (a := ⟨w.heap.size + 1, 1, none⟩) I2.out.far1 (.int .i64 (q : Int))) (a := ⟨w.heap.size + 1, 2, none⟩) I2.out.far1 (.bool false)))
          have HB : Hid _ := I2.out.sp.done (.string s) (.int .i64 (q : Int)) (.bool false)
          obtain ⟨t, ht⟩ : ∃ t, t = ba acc := ⟨_, rfl⟩
          have HT : Hid (t = ba acc) := ht
          rw [← ht] at hcA hcB
          clear ht hcv0 hrw
          go_region
          all_goals
            go_wp2_with fail
            refine bodyPost_ret (v := .tuple #[.agg #[.string s, .int .i64 (q : Int), .bool false], .string t]) (by simp [results, Tryz.results102, go_sem, *]) rfl ⟨?_, ?_⟩
            · rw [HE.out, HT.out]
              show Ending.returned _ = Ending.returned (.tuple #[.agg #[.string s, .int .i64 (pos s (dr s q) : Int), .bool false], .string (ba acc)])
              rw [pos_dr hqs]
            · exact HB.out.trans ⟨rfl, rfl, rfl, Nat.le_refl _, fun _ _ => rfl⟩
        · have b34 : ((s[j].toNat : Int) == 34) = false := by simpa using h34
          by_cases h92 : (s[j].toNat : Int) = 92
          · have b92 : ((s[j].toNat : Int) == 92) = true := by simpa using h92
            go_upto_region 12 with fail
            have I2 : Hid (StR w (wr.setCell ⟨w.heap.size, 1, none⟩ (.int .i64 (q : Int))) s q (.slice a m c) acc) := I.out.2.1.set1 q
            have hle2 : w.heap.size + 2 ≤ (wr.setCell ⟨w.heap.size, 1, none⟩ (.int .i64 (q : Int))).heap.size := I2.out.le
            generalize wr.setCell ⟨w.heap.size, 1, none⟩ (.int .i64 (q : Int)) = V at I2 hle2 ⊢
            have HR0 : Hid (m = acc.length ∧ rStr (dr s k) = rChars acc (s[j] :: dr s q)) := ⟨I.out.1, by rw [I.out.2.2, HCO.out]⟩
            clear c0 c1 c2 cf cl d0 d1 d2 df dl I hle
            obtain ⟨c0, c1, c2, cf, cl, d0, d1, d2, df, dl⟩ := I2.out.sp.cells
            by_cases hlq : q < s.size
            · have hdq : decide (s.size ≤ q) = false := by simpa using hlq
              cases hsg : isSign s[q] with
              | false =>
                have HE : Hid (rStr (dr s k) = .fail false (dr s q)) := by
                  show rStr (dr s k) = .fail false (dr s q)
                  rw [HR0.out.2, dr_cons s q hlq]; exact chars_esc_bad _ _ _ _ (by omega) hsg
                have hsg2 : ¬ (s[q].toNat : Int) = 34 ∧ ¬ (s[q].toNat : Int) = 92 := by
                  unfold isSign at hsg; simp at hsg; omega
                obtain ⟨g1, g2⟩ := hsg2
                have g3 : ((s[q].toNat : Int) == 34) = false := by simpa using g1
                have g4 : ((s[q].toNat : Int) == 92) = false := by simpa using g2
                have g5 : ((s[q].toNat : Int) != 34) = true := by simpa using g1
                have g6 : ((s[q].toNat : Int) != 92) = true := by simpa using g2
                clear hsg
                go_wp2_with fail
                refine Calls.mono (rbad_f s q q _) ?_
                rintro e W3 ⟨rfl, b3⟩
                have S3 : Hid (Sp w W3 s q false) := I2.out.sp.below b3
                clear c0 c1 c2 cf cl d0 d1 d2 df dl b3 I2
                obtain ⟨c0, c1, c2, cf, cl, d0, d1, d2, df, dl⟩ := S3.out.cells
                have HB : Hid _ := S3.out.done (.string s) (.int .i64 (q : Int)) (.bool true)
                go_wp2
                refine bodyPost_ret (v := .tuple #[.agg #[.string s, .int .i64 (q : Int), .bool true], .string ⟨#[]⟩]) (by simp [results, Tryz.results102, go_sem, *]) rfl ⟨?_, HB.out⟩
                rw [HE.out]
                show Ending.returned _ = Ending.returned (.tuple #[.agg #[.string s, .int .i64 (pos s (dr s q) : Int), .bool true], .string ⟨#[]⟩])
                rw [pos_dr hqs]
              | true =>
                have HE : Hid (rStr (dr s k) = rChars (acc ++ [s[q]]) (dr s (q + 1))) := by
                  show rStr (dr s k) = _
                  rw [HR0.out.2, dr_cons s q hlq]; exact chars_esc _ _ _ _ (by omega) hsg
                have hsg2 : (((s[q].toNat : Int) == 34) = true ∧ ((s[q].toNat : Int) != 34) = false) ∨ (((s[q].toNat : Int) == 34) = false ∧ ((s[q].toNat : Int) != 34) = true ∧ ((s[q].toNat : Int) == 92) = true ∧ ((s[q].toNat : Int) != 92) = false) := by
                  unfold isSign at hsg; simp at hsg ⊢; omega
                have HROW : Hid (V.ownsRow (w.heap.size + 2) 5 1 (.slice a m c) m (acc.map cellB)) := by
                  have := I2.out.row; rw [← HR0.out.1] at this; exact this
                have hwr : ¬ (s[q].toNat : Int) < 32 ∧ ¬ (126 : Int) < (s[q].toNat : Int) := by unfold isSign at hsg; simp at hsg; omega
                obtain ⟨r1, r2⟩ := hwr
                clear hsg
                rcases hsg2 with ⟨g1, g2⟩ | ⟨g1, g2, g3, g4⟩
                all_goals
                  go_wp2_with (at_builtin; refine wpList_own_append _ rfl _ _ 232 232 rfl (w.heap.size + 2) 5 i0 _ 1 Tryz.underlying232 hi hz0 hz1 hz2 rfl _ m (acc.map cellB) rfl (own_carryR HROW.out ((Below.refl _ _).alloc (Nat.le_refl _) _)) _ 1 [cellB s[q]] rfl (src_byR V s[q] _ rfl) ?c3 ?c4 ?c5 ?_)
                  case c3 => unfold maxLen; omega
                  case c4 => omega
                  case c5 => first | omega | (simp; omega)
                  intro v' W2 hap
                  obtain ⟨a', cp', hv⟩ := hap.shape
                  subst hv
                  have S3 : Hid (StR w W2 s q (.slice a' (m + 1) cp') (acc ++ [s[q]])) := I2.out.app (by rw [← HR0.out.1]; exact hap)
                  have S4 : Hid (StR w (W2.setCell ⟨w.heap.size, 1, none⟩ (.int .i64 ((q + 1 : Nat) : Int))) s (q + 1) (.slice a' (m + 1) cp') (acc ++ [s[q]])) := S3.out.set1 (q + 1)
                  clear hap c0 c1 c2 cf cl d0 d1 d2 df dl
                  obtain ⟨c0, c1, c2, cf, cl, d0, d1, d2, df, dl⟩ := S3.out.sp.cells
                  go_wp2
                  go_roundg (s.size - (q + 1))
                  case measure => have := HQ.out; omega
                  case rel => exact ⟨q + 1, acc ++ [s[q]], m + 1, a', cp', rfl, by omega, by omega, rfl, (⟨by rw [HR0.out.1]; simp, by simpa using S4.out, HE.out⟩ : _ ∧ _ ∧ _)⟩
            · obtain rfl : q = s.size := by omega
              have HE : Hid (rStr (dr s k) = .fail false []) := by
                show rStr (dr s k) = .fail false []
                rw [HR0.out.2, dr_end s s.size (Nat.le_refl _)]; exact chars_esc_end _ _ (by omega)
              go_wp2_with fail
              refine Calls.mono (rbad_f s s.size s.size _) ?_
              rintro e W3 ⟨rfl, b3⟩
              have S3 : Hid (Sp w W3 s s.size false) := I2.out.sp.below b3
              clear c0 c1 c2 cf cl d0 d1 d2 df dl b3 I2
              obtain ⟨c0, c1, c2, cf, cl, d0, d1, d2, df, dl⟩ := S3.out.cells
              have HB : Hid _ := S3.out.done (.string s) (.int .i64 (s.size : Int)) (.bool true)
              go_wp2
              refine bodyPost_ret (v := .tuple #[.agg #[.string s, .int .i64 (s.size : Int), .bool true], .string ⟨#[]⟩]) (by simp [results, Tryz.results102, go_sem, *]) rfl ⟨?_, HB.out⟩
              rw [HE.out]
              rfl
          · have b92 : ((s[j].toNat : Int) == 92) = false := by simpa using h92
            by_cases hbad : (s[j].toNat : Int) < 32 ∨ 126 < (s[j].toNat : Int)
            · have HE : Hid (rStr (dr s k) = .fail false (dr s j)) := by
                show rStr (dr s k) = .fail false (dr s j)
                rw [I.out.2.2, dr_cons s j hlj]; exact chars_bad _ _ _ (by omega)
              rcases (show (s[j].toNat : Int) < 32 ∨ (¬ (s[j].toNat : Int) < 32 ∧ 126 < (s[j].toNat : Int)) by omega) with h1 | ⟨h1, h2⟩
              all_goals
                clear hbad
                go_wp2_with fail
                refine Calls.mono (rbad_f s j j _) ?_
                rintro e W3 ⟨rfl, b3⟩
                have S3 : Hid (Sp w W3 s j false) := I.out.2.1.sp.below b3
                clear c0 c1 c2 cf cl d0 d1 d2 df dl b3 I
                obtain ⟨c0, c1, c2, cf, cl, d0, d1, d2, df, dl⟩ := S3.out.cells
                have HB : Hid _ := S3.out.done (.string s) (.int .i64 (j : Int)) (.bool true)
                go_wp2
                refine bodyPost_ret (v := .tuple #[.agg #[.string s, .int .i64 (j : Int), .bool true], .string ⟨#[]⟩]) (by simp [results, Tryz.results102, go_sem, *]) rfl ⟨?_, HB.out⟩
                rw [HE.out]
                show Ending.returned _ = Ending.returned (.tuple #[.agg #[.string s, .int .i64 (pos s (dr s j) : Int), .bool true], .string ⟨#[]⟩])
                rw [pos_dr hj]
            · have r1 : ¬ (s[j].toNat : Int) < 32 := by omega
              have r2 : ¬ (126 : Int) < (s[j].toNat : Int) := by omega
              have HE : Hid (rStr (dr s k) = rChars (acc ++ [s[j]]) (dr s q)) := by
                show rStr (dr s k) = _
                rw [I.out.2.2, HCO.out]; exact chars_go _ _ _ (by omega) (by omega) (by omega)
              have HROW : Hid (wr.ownsRow (w.heap.size + 2) 5 1 (.slice a m c) m (acc.map cellB)) := by
                have := I.out.2.1.row; rw [← I.out.1] at this; exact this
              clear hbad
              go_wp2_with (at_builtin; refine wpList_own_append _ rfl _ _ 232 232 rfl (w.heap.size + 2) 5 i0 _ 1 Tryz.underlying232 hi hz0 hz1 hz2 rfl _ m (acc.map cellB) rfl (own_carryR HROW.out ((Below.refl _ _).alloc (Nat.le_refl _) _)) _ 1 [cellB s[j]] rfl (src_byR wr s[j] _ rfl) ?c3 ?c4 ?c5 ?_)
              case c3 => unfold maxLen; omega
              case c4 => omega
              case c5 => first | omega | (simp; omega)
              intro v' W2 hap
              obtain ⟨a', cp', hv⟩ := hap.shape
              subst hv
              have S3 : Hid (StR w W2 s j (.slice a' (m + 1) cp') (acc ++ [s[j]])) := I.out.2.1.app (by rw [← I.out.1]; exact hap)
              have S4 : Hid (StR w (W2.setCell ⟨w.heap.size, 1, none⟩ (.int .i64 (q : Int))) s q (.slice a' (m + 1) cp') (acc ++ [s[j]])) := S3.out.set1 q
              have HMI : Hid (m = acc.length) := I.out.1
              clear hap c0 c1 c2 cf cl d0 d1 d2 df dl I
              obtain ⟨c0, c1, c2, cf, cl, d0, d1, d2, df, dl⟩ := S3.out.sp.cells
              go_wp2
              go_roundg (s.size - q)
              case measure => have := HQ.out; omega
              case rel => exact ⟨q, acc ++ [s[j]], m + 1, a', cp', rfl, hqs, by have := HQ.out; omega, rfl, (⟨by rw [HMI.out]; simp, S4.out, HE.out⟩ : _ ∧ _ ∧ _)⟩
      · obtain rfl : j = s.size := by omega
        have HE : Hid (rStr (dr s k) = .fail true []) := by
          show rStr (dr s k) = .fail true []
          rw [I.out.2.2, dr_end s s.size (Nat.le_refl _)]; rfl
        go_wp2_with fail
        refine Calls.mono (rbad_f s s.size s.size _) ?_
        rintro e W3 ⟨rfl, b3⟩
        have S3 : Hid (Sp w W3 s s.size false) := I.out.2.1.sp.below b3
        clear c0 c1 c2 cf cl d0 d1 d2 df dl b3 I
        obtain ⟨c0, c1, c2, cf, cl, d0, d1, d2, df, dl⟩ := S3.out.cells
        have HB : Hid _ := S3.out.done (.string s) (.int .i64 (s.size : Int)) (.bool true)
        go_wp2
        refine bodyPost_ret (v := .tuple #[.agg #[.string s, .int .i64 (s.size : Int), .bool true], .string ⟨#[]⟩]) (by simp [results, Tryz.results102, go_sem, *]) rfl ⟨?_, HB.out⟩
        rw [HE.out]
        rfl
end Go.Proofs.YtkncpojijfeahaaGreatDoor
