/- The groups of a table. -/
import Derived.Test.YtffdknjocmfmfaaTbAwake
import Derived.Test.YtffdknjocmfmfaaOwnSrc
import Derived.Test.YtffdknjocmfmfaaShelf
import Derived.Deep.LoopGhost
namespace Go.Proofs.Ytffdknjocmfmfaa
open Go.ChangeShapes Go.WideShapes Go.ChangeAt Go.RowKit
set_option linter.unusedVariables false

/-- Names, each once where it stands beside itself. -/
def names (L : List ByteArray) : List ByteArray := (Lib.compact (L.map (fun s : ByteArray => s.data.toList))).map (fun l => (⟨l.toArray⟩ : ByteArray))
theorem strs_of (L : List ByteArray) (Sx : Nat → ByteArray) (n : Nat) (hn : n = L.length) (h : ∀ i, i < n → Sx i = L.getD i ByteArray.empty) : Lib.strsOf Sx n = L.map (fun s : ByteArray => s.data.toList) := by
  subst hn
  unfold Lib.strsOf
  apply List.ext_getElem
  · simp
  · intro i h1 h2
    have hi : i < L.length := by simpa using h1
    simp [h i hi, hi]
theorem compact_len {zs : List (List UInt8)} : (Lib.compact zs).length ≤ zs.length := by
  unfold Lib.compact Lib.compactUpTo
  rw [List.length_map]
  exact Nat.le_trans (List.length_filter_le _ _) (by simp)
theorem below_cells {B b : Nat} (hb : B ≤ b) : ∀ (vs : List Value) (o : Nat) (w : World), Below B w (w.setCells b o vs)
  | [], _, w => Below.refl _ _
  | v :: r, o, w => by rw [World.setCells]; exact ((Below.refl B w).setCell (p := ⟨b, o, none⟩) hb v).trans (below_cells hb r (o + 1) _)
theorem size_cells {b : Nat} : ∀ (vs : List Value) (o : Nat) (w : World), (w.setCells b o vs).heap.size = w.heap.size
  | [], _, w => rfl
  | v :: r, o, w => by rw [World.setCells, size_cells r (o + 1)]; simp [World.setCell]
structure GrpS (w wr : World) (v : Value) (L : List ByteArray) : Prop where
  row : wr.ownsRow w.heap.size 9 1 v L.length (L.map Value.string)
  bel : Below w.heap.size w wr
theorem GrpS.below {w wr w' : World} {v : Value} {L : List ByteArray} (h : GrpS w wr v L) (hb : Below wr.heap.size wr w') : GrpS w w' v L :=
  ⟨row_atJ h.row (fun k hk => hb.block k (h.row.lt k hk).2), h.bel.trans (hb.mono h.bel.size)⟩
theorem GrpS.app {w wr w2 : World} {v v' : Value} {L : List ByteArray} {f : ByteArray} (h : GrpS w wr v L)
    (ha : Appended w.heap.size 9 wr w2 v v' (L.length + 1) (L.map Value.string ++ [.string f])) : GrpS w w2 v' (L ++ [f]) := by
  have hg := ha.grown
  refine ⟨?_, h.bel.trans ⟨hg.os, hg.tape, hg.output, hg.size, fun k hk => hg.block k (Nat.lt_of_lt_of_le hk h.bel.size) (fun e => by have := (h.row.lt k e.symm).1; omega)⟩⟩
  have := ha.row
  simpa using this
theorem srcTg (w : World) (s : ByteArray) (x : Nat) (hx : x = w.heap.size) :
    Src Try.prog 1 30 (.slice (some ⟨x, 0, none⟩) 1 1) 1 [.string s] (w.alloc (.cells #[.string s] 9)) :=
  Src.ofSlice _ Try.underlying30 _ 1 1 _ rfl (fun j u hu => by
    subst hx
    have := World.news_of_block (cs := #[.string s]) (t := 9) (fr := (0, 0)) (heap_alloc_new w _) j u (by simpa using hu)
    exact this) (by simp [Value.oneCell'])

/-- slices.Compact of a row of one's own. -/
theorem compact_own (w wr : World) (a : Option Addr) (c : Nat) (L : List ByteArray) (h : GrpS w wr (.slice a L.length c) L) (hl : L.length ≤ 100000) :
    Calls Try.prog 23 #[.slice a L.length c] wr fun e w' => ∃ a' c', e = .returned (.slice a' (names L).length c') ∧ StrIn w' a' (names L).length (names L) ∧ Below w.heap.size w w' := by
  rcases h.row.2 with ⟨hv, h0⟩ | ⟨g, cap, cur, hv, hB, hg, hnc, _, hcs, _⟩
  · have hL : L = [] := List.eq_nil_of_length_eq_zero h0
    subst hL
    refine (Try.slices_Compact_string_empty a c wr).mono ?_
    rintro e w' ⟨rfl, hw'⟩
    subst w'
    exact ⟨a, c, rfl, ⟨rfl, .inl rfl⟩, h.bel⟩
  · have hcell := h.row.cells (g := g) (by rw [hv]; rfl)
    simp only [Value.slice.injEq] at hv
    obtain ⟨rfl, _, rfl⟩ := hv
    have hgl := lt_blk hg
    have hc : ∀ i, i < L.length → wr.cell? ⟨g, 0 + i, none⟩ = some (.string (L.getD i ByteArray.empty)) := fun i hi => by
      have e := hcell i (.string (L.getD i ByteArray.empty)) (by simp [hi])
      rw [Addr.add_lit] at e
      exact e
    have hf : ∀ j, j < L.length → wr.frozen? ⟨g, 0 + j, none⟩ = false := fun j _ => by simp [World.frozen?, hg]
    have hs := strs_of L (fun i => L.getD i ByteArray.empty) L.length rfl (fun i _ => rfl)
    refine (Try.slices_Compact_string_cells g 0 L.length c (fun i => L.getD i ByteArray.empty) wr (by omega) hnc hc hf).mono ?_
    rw [hs]
    rintro e w' ⟨rfl, q, rfl⟩
    have hcl := compact_len (zs := L.map (fun s : ByteArray => s.data.toList))
    have hz : (L.map (fun s : ByteArray => s.data.toList)).length = L.length := by simp
    rw [hz] at hcl
    refine ⟨some ⟨g, 0, none⟩, c, by simp [names], ⟨rfl, ?_⟩, ?_⟩
    · refine .inr ⟨g, 0, rfl, ?_, fun j hj => ?_⟩
      · rw [size_cells]; exact hgl
      · have hj' : j < (Lib.compact (L.map (fun s : ByteArray => s.data.toList))).length := by simpa [names] using hj
        have hin := World.cell?_setCells_in g ((Lib.compact (L.map (fun s : ByteArray => s.data.toList)) ++ List.replicate (L.length - (Lib.compact (L.map (fun s : ByteArray => s.data.toList))).length) []).map encStr) 0 (wr.drewN q)
          (fun k hk => by
            have hk' : k < L.length := by simp at hk; omega
            have e := hc k hk'
            have e' : (wr.drewN q).cell? ⟨g, 0 + k, none⟩ = wr.cell? ⟨g, 0 + k, none⟩ := rfl
            rw [e', e]; rfl) j (by simp; omega)
        rw [hin]
        simp [names, encStr, hj']
    · have hb : Below w.heap.size w (wr.drewN q) := ⟨h.bel.os, h.bel.tape, h.bel.output, h.bel.size, h.bel.block⟩
      exact hb.trans (below_cells hB _ _ _)

set_option maxRecDepth 100000 in
set_option maxHeartbeats 4000000 in
theorem groups_any (B r : Nat) (v : Value) (X : List Ep) (w : World) (h : Tb w B r v X) :
    Calls Try.prog 9 #[.pointer (some ⟨r, 0, none⟩)] w fun e w' => ∃ a c, e = .returned (.slice a (names (X.map Ep.gr)).length c) ∧ StrIn w' a (names (X.map Ep.gr)).length (names (X.map Ep.gr)) ∧ Below w.heap.size w w' := by
  obtain ⟨i0, hi, hz0, hz1, hz2⟩ := infoStr_parts
  obtain ⟨a, cp, hv⟩ := h.shape
  subst hv
  have hle := h.le
  obtain ⟨n, hn⟩ : ∃ n, n = X.length := ⟨_, rfl⟩
  rw [← hn] at h hle
  have HN : Hid (n = X.length) := hn
  have hent : EntIn w a n X := by rw [hn]; exact Tb.ent (by rw [← hn]; exact h)
  have HE : Hid (EntIn w a n X) := hent
  have x0 := h.cell
  have xl := h.lt
  clear h hent hn
  go_enter Try.func9, Try.ntmps9
  go_wp2
  go_loopg [3, 11] n (fun kx s3 s11 wr => ∃ (i c : Nat) (av : Option Addr), s11 = .int .i64 i ∧ i ≤ n ∧ kx = n - i ∧ s3 = .slice av i c ∧ Hid (i = ((X.take i).map Ep.gr).length ∧ GrpS w wr (.slice av i c) ((X.take i).map Ep.gr)))
  case atStart => exact ⟨0, 0, none, rfl, Nat.zero_le _, rfl, rfl, (⟨rfl, World.ownsRow_nil _ _ _ _, Below.refl _ _⟩ : 0 = List.length _ ∧ GrpS _ _ _ _)⟩
  case round =>
    obtain ⟨i, c, av, rfl, hin, rfl, rfl, H⟩ := hrel
    by_cases hlt : i < n
    · obtain ⟨b, o, ha, hb, hs, hln, c0, c1, c2, c3, c4⟩ := (HE.out.below H.out.2.bel).at hlt
      subst ha
      have hft : (X.take (i + 1)).map Ep.gr = (X.take i).map Ep.gr ++ [(X.getD i ep0).gr] := by
        have hx : i < X.length := by rw [← HN.out]; exact hlt
        rw [List.take_add_one, List.getElem?_eq_getElem hx, List.map_append]
        simp [hx]
      obtain ⟨x, hx⟩ : ∃ x, x = X.getD i ep0 := ⟨_, rfl⟩
      rw [← hx] at c0 c1 c2 c3 c4 hft
      clear hx hs hln
      obtain ⟨gr, ch, fa, fl, fc, any, till, fs⟩ := x
      simp only at c0 c1 c2 c3 c4 hft
      have HF : Hid ((X.take (i + 1)).map Ep.gr = (X.take i).map Ep.gr ++ [gr]) := hft
      have hi0 : (0 : Int) ≤ (i : Int) := Int.natCast_nonneg _
      have hi1 : (i : Int) < (n : Int) := by omega
      clear hft
      obtain ⟨L, hL⟩ : ∃ L, L = (X.take i).map Ep.gr := ⟨_, rfl⟩
      rw [← hL] at H HF
      clear hL
      obtain ⟨w1, hw1⟩ : ∃ w1, w1 = wr.alloc (.cells #[.string gr, .int .i64 ch, .slice fa fl fc, .bool any, .int .i64 till] 32) := ⟨_, rfl⟩
      have b01 : Below wr.heap.size wr w1 := by rw [hw1]; exact (Below.refl _ _).alloc (Nat.le_refl _) _
      have hbx1 : w1.heap[wr.heap.size]? = some (.cells #[.string gr, .int .i64 ch, .slice fa fl fc, .bool any, .int .i64 till] 32 (0, 0)) := by rw [hw1]; exact heap_alloc_new wr _
      have H1 : Hid (GrpS w (w1.alloc (.cells #[.string gr] 9)) (.slice av i c) L) := (H.out.2.below b01).below ((Below.refl _ _).alloc (Nat.le_refl _) _)
      have HL : Hid (i = L.length) := H.out.1
      have HRow : Hid ((w1.alloc (.cells #[.string gr] 9)).ownsRow w.heap.size 9 1 (.slice av i c) i (L.map Value.string)) := (by have := H1.out.row; rw [← HL.out] at this; exact this : (w1.alloc (.cells #[.string gr] 9)).ownsRow w.heap.size 9 1 (.slice av i c) i (L.map Value.string))
      have HSRC : Hid _ := srcTg w1 gr w1.heap.size rfl
      have hws : w.heap.size ≤ w1.heap.size := (H.out.2.below b01).bel.size
      have d0 : w1.cell? ⟨wr.heap.size, 0, none⟩ = some (.string gr) := by simp [World.cell?, hbx1]
      have dl := lt_blk hbx1
      clear H b01 hbx1
      go_upto_region 5 with fail
      rw [← hw1]
      clear hw1 c0 c1 c2 c3 c4
      go_wp2_with (at_builtin; refine wpList_own_append _ rfl _ _ 30 30 rfl w.heap.size 9 i0 _ 16 Try.underlying30 hi hz0 hz1 hz2 rfl _ i (L.map Value.string) rfl HRow.out _ 1 [.string gr] rfl HSRC.out ?c3 ?c4 ?c5 ?_)
      case c3 => unfold maxLen; omega
      case c4 => omega
      case c5 => simp; omega
      intro v4 w4 ha4
      have hR4 := H1.out.app (f := gr) (by rw [← HL.out]; exact ha4)
      obtain ⟨a4, c4, hv4⟩ := ha4.shape
      subst hv4
      have H4 : Hid (i + 1 = ((X.take (i + 1)).map Ep.gr).length ∧ GrpS w w4 (.slice a4 (i + 1) c4) ((X.take (i + 1)).map Ep.gr)) := by
        rw [HF.out]
        exact ⟨by rw [List.length_append, ← HL.out]; rfl, hR4⟩
      clear ha4 hR4
      go_wp2
      go_roundg (n - (i + 1))
      case measure => omega
      case rel => exact ⟨i + 1, c4, a4, by go_num, by omega, rfl, rfl, H4⟩
    · have hi1 : ¬ (i : Int) < (n : Int) := by omega
      have htk : X.take i = X := List.take_of_length_le (by rw [← HN.out]; omega)
      rw [htk] at H
      have hcmp : Calls Try.prog 23 #[.slice av i c] wr fun e w' => ∃ a' c', e = .returned (.slice a' (names (X.map Ep.gr)).length c') ∧ StrIn w' a' (names (X.map Ep.gr)).length (names (X.map Ep.gr)) ∧ Below w.heap.size w w' := by
        have := compact_own w wr av c (X.map Ep.gr) (by rw [← H.out.1]; exact H.out.2) (by rw [← H.out.1]; omega)
        rw [← H.out.1] at this
        exact this
      have HC : Hid _ := hcmp
      clear hcmp H htk
      go_wp2_with fail
      refine Calls.mono HC.out ?_
      rintro e w5 ⟨a5, c5, rfl, hs5, hb5⟩
      go_wp2
      go_ret
      exact ⟨a5, c5, rfl, hs5, hb5⟩
theorem OwnT.names {B : Nat} {w0 w : World} {r : Nat} {X : List Ep} (h : OwnT B w0 w r X) :
    Calls Try.prog 9 #[.pointer (some ⟨r, 0, none⟩)] w fun e w' => ∃ a c, e = .returned (.slice a (names (X.map Ep.gr)).length c) ∧ StrIn w' a (names (X.map Ep.gr)).length (names (X.map Ep.gr)) ∧ Below w.heap.size w w' := by
  obtain ⟨v, hv⟩ := h.tab
  exact groups_any B r v X w hv
end Go.Proofs.Ytffdknjocmfmfaa
