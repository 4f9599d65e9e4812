/- table.take: those of which a closure tells so leave the table. -/
import Derived.Test.YtffdknjocmfmfaaTbAwake
namespace Go.Proofs.Ytffdknjocmfmfaa
open Go.ChangeShapes Go.WideShapes Go.ChangeAt Go.RowKit
set_option linter.unusedVariables false

theorem own_mono {w : World} {B B' : Nat} {e : TypeId} {k n : Nat} {v : Value} {xs : List Value} (h : w.ownsRow B e k v n xs) (hB : B' ≤ B) : w.ownsRow B' e k v n xs := by
  refine ⟨h.1, ?_⟩
  rcases h.2 with h1 | ⟨g, cap, cur, hv, hbg, r⟩
  · exact .inl h1
  · exact .inr ⟨g, cap, cur, hv, Nat.le_trans hB hbg, r⟩
/-- Two rows of entries of one's own. -/
structure TwoE (w wr : World) (v1 : Value) (Y1 : List Ep) (v2 : Value) (Y2 : List Ep) : Prop where
  r1 : wr.ownsRow w.heap.size 32 5 v1 Y1.length (Y1.flatMap Ep.cells)
  r2 : wr.ownsRow w.heap.size 32 5 v2 Y2.length (Y2.flatMap Ep.cells)
  ap : ∀ b, v1.ownBlock = some b → v2.ownBlock ≠ some b
  bel : Below w.heap.size w wr
theorem TwoE.below {w wr w' : World} {v1 v2 : Value} {Y1 Y2 : List Ep} (h : TwoE w wr v1 Y1 v2 Y2) (hb : Below wr.heap.size wr w') : TwoE w w' v1 Y1 v2 Y2 :=
  ⟨row_atJ h.r1 (fun k hk => hb.block k (h.r1.lt k hk).2), row_atJ h.r2 (fun k hk => hb.block k (h.r2.lt k hk).2), h.ap, h.bel.trans (hb.mono h.bel.size)⟩
theorem TwoE.swap {w wr : World} {v1 v2 : Value} {Y1 Y2 : List Ep} (h : TwoE w wr v1 Y1 v2 Y2) : TwoE w wr v2 Y2 v1 Y1 := ⟨h.r2, h.r1, fun b h1 h2 => h.ap b h2 h1, h.bel⟩
theorem TwoE.app {w wr w2 : World} {v1 v1' v2 : Value} {Y1 Y2 : List Ep} {x : Ep} (h : TwoE w wr v1 Y1 v2 Y2) (ha : Appended5 w.heap.size 32 wr w2 v1 v1' (Y1.length + 1) (Y1.flatMap Ep.cells ++ x.cells)) : TwoE w w2 v1' (Y1 ++ [x]) v2 Y2 := by
  have hg := ha.grown
  refine ⟨?_, row_atJ h.r2 (fun k hk => hg.block k (h.r2.lt k hk).2 (fun e => h.ap k e.symm hk)), fun b hb => ?_, h.bel.trans ⟨hg.os, hg.tape, hg.output, hg.size, fun k hk => hg.block k (Nat.lt_of_lt_of_le hk h.bel.size) (fun e => by have := (h.r1.lt k e.symm).1; omega)⟩⟩
  · have := ha.row; simpa using this
  · rcases ha.new b hb with q | q
    · exact h.ap b q
    · intro e; have := (h.r2.lt b e).2; omega
theorem asc_filter (p : Ep → Bool) {X : List Ep} (h : Asc ltK (X.map Ep.key)) : Asc ltK ((X.filter p).map Ep.key) := h.sublist ((List.filter_sublist).map _)
/-- At last: the box shows the new row. -/
theorem Tb.left {w wr : World} {B r : Nat} {v v1 v2 : Value} {X Y1 : List Ep} (h : Tb w B r v X) (hB : B ≤ w.heap.size) (q : Ep → Bool) (h2 : TwoE w wr v1 Y1 v2 (X.filter q)) :
    Tb (wr.setCell ⟨r, 0, none⟩ v2) B r v2 (X.filter q) ∧ KT w (wr.setCell ⟨r, 0, none⟩ v2) r v v2 ∧ (wr.setCell ⟨r, 0, none⟩ v2).ownsRow w.heap.size 32 5 v1 Y1.length (Y1.flatMap Ep.cells) := by
  have hrl := h.lt
  have hne2 : v2.ownBlock ≠ some r := fun e => by have := (h2.r2.lt r e).1; omega
  have hne1 : v1.ownBlock ≠ some r := fun e => by have := (h2.r1.lt r e).1; omega
  have hsz : w.heap.size ≤ (wr.setCell ⟨r, 0, none⟩ v2).heap.size := by simp [World.setCell]; exact h2.bel.size
  have hbk : ∀ b, b < w.heap.size → b ≠ r → (wr.setCell ⟨r, 0, none⟩ v2).heap[b]? = w.heap[b]? := fun b hb hne => by rw [setCell_heap hne]; exact h2.bel.block b hb
  refine ⟨⟨?_, h.lo, ?_, hne2, fun x hx => ?_, asc_filter q h.asc, Nat.le_trans (List.length_filter_le _ _) h.le⟩, ⟨h2.bel.os, h2.bel.tape, h2.bel.output, hsz, fun b hb h3 _ => hbk b hb h3, fun b hb => .inr (h2.r2.lt b hb).1⟩, ?_⟩
  · have hb := (h2.bel.block r hrl).trans h.box
    simp only [World.setCell, Array.getElem?_modify]; rw [hb]; simp
  · exact own_mono (row_atJ h2.r2 (fun b hb => setCell_heap (fun e => hne2 (by rw [← e]; exact hb)) _)) hB
  · have hx' := h.fil x (List.mem_filter.1 hx).1
    exact hx'.at hsz (fun b hb => hbk _ (hx'.cl b hb).1 (hx'.cl b hb).2.1) (fun b hb e => by have h3 := (h2.r2.lt _ e).1; have h4 := (hx'.cl b hb).1; omega)
  · exact row_atJ h2.r1 (fun b hb => setCell_heap (fun e => hne1 (by rw [← e]; exact hb)) _)

set_option maxRecDepth 100000 in
set_option maxHeartbeats 4000000 in
theorem take_any (f : Nat) (cb : Array Value) (p : Ep → Bool) (B r : Nat) (v : Value) (X : List Ep) (w : World) (eg : ∀ args w, (callFunc f args).run Try.prog w = .ok (.enter f args) w) (h : Tb w B r v X) (hB : B ≤ w.heap.size)
    (hf : ∀ (W : World) (x : Ep), x ∈ X → Below w.heap.size w W → Calls Try.prog f (#[.agg #[.string x.gr, .int .i64 x.ch, .slice x.a x.ln x.cp, .bool x.any, .int .i64 x.till]] ++ cb) W fun e w' => e = .returned (.bool (p x)) ∧ Below W.heap.size W w') :
    Calls Try.prog 19 #[.pointer (some ⟨r, 0, none⟩), .func (.func f) #[] cb] w fun e w' => ∃ a c v2, e = .returned (.slice a (X.filter p).length c) ∧ Tb w' B r v2 (X.filter (fun x => !p x)) ∧ KT w w' r v v2 ∧ w'.ownsRow w.heap.size 32 5 (.slice a (X.filter p).length c) (X.filter p).length ((X.filter p).flatMap Ep.cells) ∧ ∀ b, (Value.slice a (X.filter p).length c).ownBlock = some b → v2.ownBlock ≠ some b := by
  obtain ⟨i0, hi, hz0, hz1, hz2⟩ := infoEnt_parts
  obtain ⟨a, cp, hv⟩ := h.shape
  subst hv
  have hle := h.le
  obtain ⟨n, hn⟩ : ∃ n, n = X.length := ⟨_, rfl⟩
  rw [← hn] at h hle ⊢
  have HN : Hid (n = X.length) := hn
  have hent : EntIn w a n X := by rw [hn]; exact Tb.ent (by rw [← hn]; exact h)
  have HE : Hid (EntIn w a n X) := hent
  have HT : Hid _ := h
  have HF : Hid _ := hf
  have x0 := h.cell
  have xl := h.lt
  clear h hent hn hf
  go_enter Try.func19, Try.ntmps19
  go_wp2
  go_loopg [5, 6, 14] n (fun kx s5 s6 s14 wr => ∃ (i m1 c1 m2 c2 : Nat) (a1 a2 : Option Addr), s14 = .int .i64 i ∧ i ≤ n ∧ kx = n - i ∧ s5 = .slice a1 m1 c1 ∧ s6 = .slice a2 m2 c2 ∧ m1 + m2 = i ∧ Hid (m1 = ((X.take i).filter p).length ∧ m2 = ((X.take i).filter (fun x => !p x)).length ∧ TwoE w wr (.slice a1 m1 c1) ((X.take i).filter p) (.slice a2 m2 c2) ((X.take i).filter (fun x => !p x))))
  case atStart => exact ⟨0, 0, 0, 0, 0, none, none, rfl, Nat.zero_le _, rfl, rfl, rfl, rfl, (⟨rfl, rfl, ⟨World.ownsRow_nil _ _ _ _, World.ownsRow_nil _ _ _ _, (fun b hb => by simp [Value.ownBlock] at hb), Below.refl _ _⟩⟩ : 0 = List.length _ ∧ 0 = List.length _ ∧ TwoE _ _ _ _ _ _)⟩
  case round =>
    obtain ⟨i, m1, c1, m2, c2, a1, a2, rfl, hin, rfl, rfl, rfl, hmm, H⟩ := hrel
    by_cases hlt : i < n
    · obtain ⟨b, o, ha, hb, _, _, e0, e1, e2, e3, e4⟩ := (HE.out.below H.out.2.2.bel).at hlt
      subst ha
      have hft := filter_take_succ p X i (by rw [← HN.out]; exact hlt)
      have hfn := filter_take_succ (fun x => !p x) X i (by rw [← HN.out]; exact hlt)
      have hmem : X.getD i ep0 ∈ X := getD_memL ep0 X i (by rw [← HN.out]; exact hlt)
      obtain ⟨x, hx⟩ : ∃ x, x = X.getD i ep0 := ⟨_, rfl⟩
      rw [← hx] at e0 e1 e2 e3 e4 hft hfn hmem
      clear hx
      have hi0 : (0 : Int) ≤ (i : Int) := Int.natCast_nonneg _
      have hi1 : (i : Int) < (n : Int) := by omega
      obtain ⟨w1, hw1⟩ : ∃ w1, w1 = wr.alloc (.cells #[.string x.gr, .int .i64 x.ch, .slice x.a x.ln x.cp, .bool x.any, .int .i64 x.till] 32) := ⟨_, rfl⟩
      have b01 : Below wr.heap.size wr w1 := by rw [hw1]; exact (Below.refl _ _).alloc (Nat.le_refl _) _
      have hbx1 : w1.heap[wr.heap.size]? = some (.cells #[.string x.gr, .int .i64 x.ch, .slice x.a x.ln x.cp, .bool x.any, .int .i64 x.till] 32 (0, 0)) := by rw [hw1]; exact heap_alloc_new wr _
      have hcall := HF.out w1 x hmem (H.out.2.2.bel.trans (b01.mono H.out.2.2.bel.size))
      have HC : Hid _ := hcall
      have H1 : Hid _ := H.out.2.2.below b01
      have HM : Hid _ := (⟨H.out.1, H.out.2.1⟩ : _ ∧ _)
      have hz1' := lt_blk hbx1
      have HBX : Hid _ := hbx1
      clear hcall b01 hbx1 H hmem
      have d0 : w1.cell? ⟨wr.heap.size, 0, none⟩ = some (.string x.gr) := by have := HBX.out; simp [World.cell?, this]
      have d1 : w1.cell? ⟨wr.heap.size, 1, none⟩ = some (.int .i64 x.ch) := by have := HBX.out; simp [World.cell?, this]
      have d2 : w1.cell? ⟨wr.heap.size, 2, none⟩ = some (.slice x.a x.ln x.cp) := by have := HBX.out; simp [World.cell?, this]
      have d3 : w1.cell? ⟨wr.heap.size, 3, none⟩ = some (.bool x.any) := by have := HBX.out; simp [World.cell?, this]
      have d4 : w1.cell? ⟨wr.heap.size, 4, none⟩ = some (.int .i64 x.till) := by have := HBX.out; simp [World.cell?, this]
      go_wp2_with fail
      rw [← hw1]
      clear hw1 e0 e1 e2 e3 e4 d0 d1 d2 d3 d4
      refine Calls.mono HC.out ?_
      rintro e w2 ⟨rfl, hb2⟩
      have hbx2 := (hb2.block _ hz1').trans HBX.out
      have d0 : w2.cell? ⟨wr.heap.size, 0, none⟩ = some (.string x.gr) := by simp [World.cell?, hbx2]
      have d1 : w2.cell? ⟨wr.heap.size, 1, none⟩ = some (.int .i64 x.ch) := by simp [World.cell?, hbx2]
      have d2 : w2.cell? ⟨wr.heap.size, 2, none⟩ = some (.slice x.a x.ln x.cp) := by simp [World.cell?, hbx2]
      have d3 : w2.cell? ⟨wr.heap.size, 3, none⟩ = some (.bool x.any) := by simp [World.cell?, hbx2]
      have d4 : w2.cell? ⟨wr.heap.size, 4, none⟩ = some (.int .i64 x.till) := by simp [World.cell?, hbx2]
      have dl := lt_blk hbx2
      have H2 : Hid _ := (H1.out.below hb2).below ((Below.refl _ _).alloc (Nat.le_refl _) (.cells #[.string x.gr, .int .i64 x.ch, .slice x.a x.ln x.cp, .bool x.any, .int .i64 x.till] 32))
      have hws : w.heap.size ≤ w2.heap.size := (H1.out.below hb2).bel.size
      have HSRC : Hid _ := srcE w2 x w2.heap.size rfl
      clear hbx2 hb2 HBX H1 HC
      cases hp : p x with
      | true =>
        have HF1 : Hid ((X.take (i + 1)).filter p = (X.take i).filter p ++ [x]) := by show _ = _; rw [hft]; simp [hp]
        have HF2 : Hid ((X.take (i + 1)).filter (fun x => !p x) = (X.take i).filter (fun x => !p x)) := by show _ = _; rw [hfn]; simp [hp]
        clear hft hfn hp
        have hrow := H2.out.r1
        rw [← HM.out.1] at hrow
        have HRow : Hid _ := hrow
        clear hrow
        go_wp2_with (at_builtin; refine wpList_own_append5 _ rfl _ _ 22 22 rfl w.heap.size 32 i0 _ 64 Try.underlying22 hi hz0 hz1 hz2 rfl _ m1 (((X.take i).filter p).flatMap Ep.cells) rfl HRow.out _ 1 x.cells rfl HSRC.out ?c3 ?c4 ?c5 ?_)
        case c3 => unfold maxLen; omega
        case c4 => omega
        case c5 => simp; omega
        intro v4 w4 ha4
        have hR4 := H2.out.app (x := x) (by rw [← HM.out.1]; exact ha4)
        obtain ⟨a4, c4, hv4⟩ := ha4.shape
        subst hv4
        have H4 : Hid (m1 + 1 = ((X.take (i + 1)).filter p).length ∧ m2 = ((X.take (i + 1)).filter (fun x => !p x)).length ∧ TwoE w w4 (.slice a4 (m1 + 1) c4) ((X.take (i + 1)).filter p) (.slice a2 m2 c2) ((X.take (i + 1)).filter (fun x => !p x))) := by
          rw [HF1.out, HF2.out]
          exact ⟨by rw [List.length_append, ← HM.out.1]; rfl, HM.out.2, hR4⟩
        clear ha4 hR4
        go_wp2
        go_roundg (n - (i + 1))
        case measure => omega
        case rel => exact ⟨i + 1, m1 + 1, c4, m2, c2, a4, a2, by go_num, by omega, rfl, rfl, rfl, by omega, H4⟩
      | false =>
        have HF1 : Hid ((X.take (i + 1)).filter p = (X.take i).filter p) := by show _ = _; rw [hft]; simp [hp]
        have HF2 : Hid ((X.take (i + 1)).filter (fun x => !p x) = (X.take i).filter (fun x => !p x) ++ [x]) := by show _ = _; rw [hfn]; simp [hp]
        clear hft hfn hp
        have hrow := H2.out.r2
        rw [← HM.out.2] at hrow
        have HRow : Hid _ := hrow
        clear hrow
        go_wp2_with (at_builtin; refine wpList_own_append5 _ rfl _ _ 22 22 rfl w.heap.size 32 i0 _ 64 Try.underlying22 hi hz0 hz1 hz2 rfl _ m2 (((X.take i).filter (fun x => !p x)).flatMap Ep.cells) rfl HRow.out _ 1 x.cells rfl HSRC.out ?c3 ?c4 ?c5 ?_)
        case c3 => unfold maxLen; omega
        case c4 => omega
        case c5 => simp; omega
        intro v4 w4 ha4
        have hR4 := (H2.out.swap.app (x := x) (by rw [← HM.out.2]; exact ha4)).swap
        obtain ⟨a4, c4, hv4⟩ := ha4.shape
        subst hv4
        have H4 : Hid (m1 = ((X.take (i + 1)).filter p).length ∧ m2 + 1 = ((X.take (i + 1)).filter (fun x => !p x)).length ∧ TwoE w w4 (.slice a1 m1 c1) ((X.take (i + 1)).filter p) (.slice a4 (m2 + 1) c4) ((X.take (i + 1)).filter (fun x => !p x))) := by
          rw [HF1.out, HF2.out]
          exact ⟨HM.out.1, by rw [List.length_append, ← HM.out.2]; rfl, hR4⟩
        clear ha4 hR4
        go_wp2
        go_roundg (n - (i + 1))
        case measure => omega
        case rel => exact ⟨i + 1, m1, c1, m2 + 1, c4, a1, a4, by go_num, by omega, rfl, rfl, rfl, by omega, H4⟩
    · have hi1 : ¬ (i : Int) < (n : Int) := by omega
      have htk : X.take i = X := List.take_of_length_le (by rw [← HN.out]; omega)
      rw [htk] at H
      have xr : wr.cell? ⟨r, 0, none⟩ = some (.slice a n cp) := (H.out.2.2.bel.cell (p := ⟨r, 0, none⟩) xl).trans x0
      have xf : wr.frozen? ⟨r, 0, none⟩ = false := by
        have hbx := (H.out.2.2.bel.block r xl).trans HT.out.box
        simp [World.frozen?, hbx]
      have xrl : r < wr.heap.size := Nat.lt_of_lt_of_le xl H.out.2.2.bel.size
      have HL : Hid _ := Tb.left HT.out hB (fun x => !p x) H.out.2.2
      have HM1 : Hid (m1 = (X.filter p).length) := H.out.1
      have HAP : Hid (∀ b, (Value.slice a1 m1 c1).ownBlock = some b → (Value.slice a2 m2 c2).ownBlock ≠ some b) := H.out.2.2.ap
      clear H htk
      go_wp2
      go_ret
      have hl := HL.out
      rw [HM1.out] at hl ⊢
      have hap := HAP.out
      rw [HM1.out] at hap
      exact ⟨a1, c1, rfl, _, hl.1, hl.2.1, hl.2.2, hap⟩
end Go.Proofs.Ytffdknjocmfmfaa
