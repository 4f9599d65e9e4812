/- What layer 13's document fixes (awake); a table of one's own. -/
import Derived.Test.YtmajlldfiiokoaaGreatDoorJoinLinMath
import Derived.Deep.RegionHeld3
import Derived.Test.YtmajlldfiiokoaaGreatDoorJoinTrMath
import Derived.Test.YtmajlldfiiokoaaGreatDoorRows
import Derived.Test.YtmajlldfiiokoaaGreatDoorAid
import Derived.WalkKit
import Derived.ProofKit
import Derived.OpenShut
import Derived.WalkLawsBesides
import Derived.Deep.AppendLies
import Derived.Deep.RegionLaw
import Derived.Test.YtmajlldfiiokoaaGreatDoorInRow
set_option linter.unnecessarySimpa false
namespace Go.Proofs.YtmajlldfiiokoaaGreatDoor
open Go.ChangeShapes Go.WideShapes Go.ChangeAt Go.RowKit
set_option linter.unusedVariables false

/-- A table that lies from B on, and all below B as it was. -/
structure OwnT (B : Nat) (w0 w : World) (r : Nat) (X : List Ep) : Prop where
  tab : ∃ v, Tb w B r v X
  bel : Below B w0 w
  size : B ≤ w.heap.size
theorem OwnT.new (w : World) : OwnT w.heap.size w (w.alloc (.cells #[.slice none 0 0] 200)) w.heap.size [] := ⟨⟨_, Tb.new w⟩, (Below.refl _ _).alloc (Nat.le_refl _) _, by simp⟩
theorem OwnT.below {B : Nat} {w0 w w' : World} {r : Nat} {X : List Ep} (h : OwnT B w0 w r X) (hb : Below w.heap.size w w') : OwnT B w0 w' r X := by
  obtain ⟨v, hv⟩ := h.tab
  exact ⟨⟨v, hv.below hb⟩, h.bel.trans (hb.mono h.size), Nat.le_trans h.size hb.size⟩
theorem OwnT.put {B : Nat} {w0 w : World} {r : Nat} {X : List Ep} (h : OwnT B w0 w r X) (g : ByteArray) (c : Int) (fa : Option Addr) (fl fc : Nat) (any : Bool) (till : Int) (fs : List ByteArray) (hf : StrIn w fa fl fs) (hfl : fl ≤ 100000) (hroom : hasK (X.map Ep.key) (g, c) = true ∨ X.length < 400) :
    Calls Tryz.prog 128 #[.pointer (some ⟨r, 0, none⟩), .agg #[.string g, .int .i64 c, .slice fa fl fc, .bool any, .int .i64 till]] w fun e w' =>
      e = .returned .nilIface ∧ ∃ x', (x'.key = (g, c) ∧ x'.till = till ∧ x'.want = cleanW (any, fs)) ∧ OwnT B w0 w' r (putE X x') ∧ w.heap.size ≤ w'.heap.size := by
  obtain ⟨v, hv⟩ := h.tab
  refine (put_any B r v X g c fa fl fc any till fs w hv hf hfl h.size hroom).mono ?_
  rintro e w' ⟨rfl, v', x', hx, hT, hK, _⟩
  exact ⟨rfl, x', hx, ⟨⟨v', hT⟩, h.bel.trans (hK.below hv.lo hv.vlo h.size), Nat.le_trans h.size hK.size⟩, hK.size⟩
def sa : ByteArray := ⟨#[97]⟩
end Go.Proofs.YtmajlldfiiokoaaGreatDoor

/- table.take: those of which a closure tells so leave the table. -/
namespace Go.Proofs.YtmajlldfiiokoaaGreatDoor
open Go.ChangeShapes Go.WideShapes Go.ChangeAt Go.RowKit
set_option linter.unusedVariables false

theorem own_mono {w : World} {B B' : Nat} {e : TypeId} {k n : Nat} {v : Value} {xs : List Value} (h : w.ownsRow B e k v n xs) (hB : B' ≤ B) : w.ownsRow B' e k v n xs := by
  refine ⟨h.1, ?_⟩
  rcases h.2 with h1 | ⟨g, cap, cur, hv, hbg, r⟩
  · exact .inl h1
  · exact .inr ⟨g, cap, cur, hv, Nat.le_trans hB hbg, r⟩
/-- Two rows of entries of one's own. -/
structure TwoE (w wr : World) (v1 : Value) (Y1 : List Ep) (v2 : Value) (Y2 : List Ep) : Prop where
  r1 : wr.ownsRow w.heap.size 89 5 v1 Y1.length (Y1.flatMap Ep.cells)
  r2 : wr.ownsRow w.heap.size 89 5 v2 Y2.length (Y2.flatMap Ep.cells)
  ap : ∀ b, v1.ownBlock = some b → v2.ownBlock ≠ some b
  bel : Below w.heap.size w wr
theorem TwoE.below {w wr w' : World} {v1 v2 : Value} {Y1 Y2 : List Ep} (h : TwoE w wr v1 Y1 v2 Y2) (hb : Below wr.heap.size wr w') : TwoE w w' v1 Y1 v2 Y2 :=
  ⟨row_atJ h.r1 (fun k hk => hb.block k (h.r1.lt k hk).2), row_atJ h.r2 (fun k hk => hb.block k (h.r2.lt k hk).2), h.ap, h.bel.trans (hb.mono h.bel.size)⟩
theorem TwoE.swap {w wr : World} {v1 v2 : Value} {Y1 Y2 : List Ep} (h : TwoE w wr v1 Y1 v2 Y2) : TwoE w wr v2 Y2 v1 Y1 := ⟨h.r2, h.r1, fun b h1 h2 => h.ap b h2 h1, h.bel⟩
theorem TwoE.app {w wr w2 : World} {v1 v1' v2 : Value} {Y1 Y2 : List Ep} {x : Ep} (h : TwoE w wr v1 Y1 v2 Y2) (ha : Appended5 w.heap.size 89 wr w2 v1 v1' (Y1.length + 1) (Y1.flatMap Ep.cells ++ x.cells)) : TwoE w w2 v1' (Y1 ++ [x]) v2 Y2 := by
  have hg := ha.grown
  refine ⟨?_, row_atJ h.r2 (fun k hk => hg.block k (h.r2.lt k hk).2 (fun e => h.ap k e.symm hk)), fun b hb => ?_, h.bel.trans ⟨hg.os, hg.tape, hg.output, hg.size, fun k hk => hg.block k (Nat.lt_of_lt_of_le hk h.bel.size) (fun e => by have := (h.r1.lt k e.symm).1; omega)⟩⟩
  · have := ha.row; simpa using this
  · rcases ha.new b hb with q | q
    · exact h.ap b q
    · intro e; have := (h.r2.lt b e).2; omega
theorem asc_filter (p : Ep → Bool) {X : List Ep} (h : Asc ltK (X.map Ep.key)) : Asc ltK ((X.filter p).map Ep.key) := h.sublist ((List.filter_sublist).map _)
/-- At last: the box shows the new row. -/
theorem Tb.left {w wr : World} {B r : Nat} {v v1 v2 : Value} {X Y1 : List Ep} (h : Tb w B r v X) (hB : B ≤ w.heap.size) (q : Ep → Bool) (h2 : TwoE w wr v1 Y1 v2 (X.filter q)) :
    Tb (wr.setCell ⟨r, 0, none⟩ v2) B r v2 (X.filter q) ∧ KT w (wr.setCell ⟨r, 0, none⟩ v2) r v v2 ∧ (wr.setCell ⟨r, 0, none⟩ v2).ownsRow w.heap.size 89 5 v1 Y1.length (Y1.flatMap Ep.cells) := by
  have hrl := h.lt
  have hne2 : v2.ownBlock ≠ some r := fun e => by have := (h2.r2.lt r e).1; omega
  have hne1 : v1.ownBlock ≠ some r := fun e => by have := (h2.r1.lt r e).1; omega
  have hsz : w.heap.size ≤ (wr.setCell ⟨r, 0, none⟩ v2).heap.size := by simp [World.setCell]; exact h2.bel.size
  have hbk : ∀ b, b < w.heap.size → b ≠ r → (wr.setCell ⟨r, 0, none⟩ v2).heap[b]? = w.heap[b]? := fun b hb hne => by rw [setCell_heap hne]; exact h2.bel.block b hb
  refine ⟨⟨?_, h.lo, ?_, hne2, fun x hx => ?_, asc_filter q h.asc, Nat.le_trans (List.length_filter_le _ _) h.le⟩, ⟨h2.bel.os, h2.bel.tape, h2.bel.output, hsz, fun b hb h3 _ => hbk b hb h3, fun b hb => .inr (h2.r2.lt b hb).1⟩, ?_⟩
  · have hb := (h2.bel.block r hrl).trans h.box
    simp only [World.setCell, Array.getElem?_modify]; rw [hb]; simp
  · exact own_mono (row_atJ h2.r2 (fun b hb => setCell_heap (fun e => hne2 (by rw [← e]; exact hb)) _)) hB
  · have hx' := h.fil x (List.mem_filter.1 hx).1
    exact hx'.at hsz (fun b hb => hbk _ (hx'.cl b hb).1 (hx'.cl b hb).2.1) (fun b hb e => by have h3 := (h2.r2.lt _ e).1; have h4 := (hx'.cl b hb).1; omega)
  · exact row_atJ h2.r1 (fun b hb => setCell_heap (fun e => hne1 (by rw [← e]; exact hb)) _)

set_option maxRecDepth 100000 in
set_option maxHeartbeats 4000000 in
theorem take_any (f : Nat) (cb : Array Value) (p : Ep → Bool) (B r : Nat) (v : Value) (X : List Ep) (w : World) (eg : ∀ args w, (callFunc f args).run Tryz.prog w = .ok (.enter f args) w) (h : Tb w B r v X) (hB : B ≤ w.heap.size)
    (hf : ∀ (W : World) (x : Ep), x ∈ X → Below w.heap.size w W → Calls Tryz.prog f (#[.agg #[.string x.gr, .int .i64 x.ch, .slice x.a x.ln x.cp, .bool x.any, .int .i64 x.till]] ++ cb) W fun e w' => e = .returned (.bool (p x)) ∧ Below W.heap.size W w') :
    Calls Tryz.prog 168 #[.pointer (some ⟨r, 0, none⟩), .func (.func f) #[] cb] w fun e w' => ∃ a c v2, e = .returned (.slice a (X.filter p).length c) ∧ Tb w' B r v2 (X.filter (fun x => !p x)) ∧ KT w w' r v v2 ∧ w'.ownsRow w.heap.size 89 5 (.slice a (X.filter p).length c) (X.filter p).length ((X.filter p).flatMap Ep.cells) ∧ ∀ b, (Value.slice a (X.filter p).length c).ownBlock = some b → v2.ownBlock ≠ some b := by
  obtain ⟨i0, hi, hz0, hz1, hz2⟩ := infoEnt_parts
  obtain ⟨a, cp, hv⟩ := h.shape
  subst hv
  have hle := h.le
  obtain ⟨n, hn⟩ : ∃ n, n = X.length := ⟨_, rfl⟩
  rw [← hn] at h hle ⊢
  have HN : Hid (n = X.length) := hn
  have hent : EntIn w a n X := by rw [hn]; exact Tb.ent (by rw [← hn]; exact h)
  have HE : Hid (EntIn w a n X) := hent
  have HT : Hid _ := h
  have HF : Hid _ := hf
  have x0 := h.cell
  have xl := h.lt
  clear h hent hn hf
  go_enter Tryz.func168, Tryz.ntmps168
  go_wp2
  go_loopg [5, 6, 14] n (fun kx s5 s6 s14 wr => ∃ (i m1 c1 m2 c2 : Nat) (a1 a2 : Option Addr), s14 = .int .i64 i ∧ i ≤ n ∧ kx = n - i ∧ s5 = .slice a1 m1 c1 ∧ s6 = .slice a2 m2 c2 ∧ m1 + m2 = i ∧ Hid (m1 = ((X.take i).filter p).length ∧ m2 = ((X.take i).filter (fun x => !p x)).length ∧ TwoE w wr (.slice a1 m1 c1) ((X.take i).filter p) (.slice a2 m2 c2) ((X.take i).filter (fun x => !p x))))
  case atStart => exact ⟨0, 0, 0, 0, 0, none, none, rfl, Nat.zero_le _, rfl, rfl, rfl, rfl, (⟨rfl, rfl, ⟨World.ownsRow_nil _ _ _ _, World.ownsRow_nil _ _ _ _, (fun b hb => by simp [Value.ownBlock] at hb), Below.refl _ _⟩⟩ : 0 = List.length _ ∧ 0 = List.length _ ∧ TwoE _ _ _ _ _ _)⟩
  case round =>
    obtain ⟨i, m1, c1, m2, c2, a1, a2, rfl, hin, rfl, rfl, rfl, hmm, H⟩ := hrel
    by_cases hlt : i < n
    · obtain ⟨b, o, ha, hb, _, _, e0, e1, e2, e3, e4⟩ := (HE.out.below H.out.2.2.bel).at hlt
      subst ha
      have hft := filter_take_succ p X i (by rw [← HN.out]; exact hlt)
      have hfn := filter_take_succ (fun x => !p x) X i (by rw [← HN.out]; exact hlt)
      have hmem : X.getD i ep0 ∈ X := getD_memL ep0 X i (by rw [← HN.out]; exact hlt)
      obtain ⟨x, hx⟩ : ∃ x, x = X.getD i ep0 := ⟨_, rfl⟩
      rw [← hx] at e0 e1 e2 e3 e4 hft hfn hmem
      clear hx
      have hi0 : (0 : Int) ≤ (i : Int) := Int.natCast_nonneg _
      have hi1 : (i : Int) < (n : Int) := by omega
      obtain ⟨w1, hw1⟩ : ∃ w1, w1 = wr.alloc (.cells #[.string x.gr, .int .i64 x.ch, .slice x.a x.ln x.cp, .bool x.any, .int .i64 x.till] 89) := ⟨_, rfl⟩
      have b01 : Below wr.heap.size wr w1 := by rw [hw1]; exact (Below.refl _ _).alloc (Nat.le_refl _) _
      have hbx1 : w1.heap[wr.heap.size]? = some (.cells #[.string x.gr, .int .i64 x.ch, .slice x.a x.ln x.cp, .bool x.any, .int .i64 x.till] 89 (0, 0)) := by rw [hw1]; exact heap_alloc_new wr _
      have hcall := HF.out w1 x hmem (H.out.2.2.bel.trans (b01.mono H.out.2.2.bel.size))
      have HC : Hid _ := hcall
      have H1 : Hid _ := H.out.2.2.below b01
      have HM : Hid _ := (⟨H.out.1, H.out.2.1⟩ : _ ∧ _)
      have hz1' := lt_blk hbx1
      have HBX : Hid _ := hbx1
      clear hcall b01 hbx1 H hmem
      have d0 : w1.cell? ⟨wr.heap.size, 0, none⟩ = some (.string x.gr) := by have := HBX.out; simp [World.cell?, this]
      have d1 : w1.cell? ⟨wr.heap.size, 1, none⟩ = some (.int .i64 x.ch) := by have := HBX.out; simp [World.cell?, this]
      have d2 : w1.cell? ⟨wr.heap.size, 2, none⟩ = some (.slice x.a x.ln x.cp) := by have := HBX.out; simp [World.cell?, this]
      have d3 : w1.cell? ⟨wr.heap.size, 3, none⟩ = some (.bool x.any) := by have := HBX.out; simp [World.cell?, this]
      have d4 : w1.cell? ⟨wr.heap.size, 4, none⟩ = some (.int .i64 x.till) := by have := HBX.out; simp [World.cell?, this]
      go_wp2_with fail
      rw [← hw1]
      clear hw1 e0 e1 e2 e3 e4 d0 d1 d2 d3 d4
      refine Calls.mono HC.out ?_
      rintro e w2 ⟨rfl, hb2⟩
      have hbx2 := (hb2.block _ hz1').trans HBX.out
      have d0 : w2.cell? ⟨wr.heap.size, 0, none⟩ = some (.string x.gr) := by simp [World.cell?, hbx2]
      have d1 : w2.cell? ⟨wr.heap.size, 1, none⟩ = some (.int .i64 x.ch) := by simp [World.cell?, hbx2]
      have d2 : w2.cell? ⟨wr.heap.size, 2, none⟩ = some (.slice x.a x.ln x.cp) := by simp [World.cell?, hbx2]
      have d3 : w2.cell? ⟨wr.heap.size, 3, none⟩ = some (.bool x.any) := by simp [World.cell?, hbx2]
      have d4 : w2.cell? ⟨wr.heap.size, 4, none⟩ = some (.int .i64 x.till) := by simp [World.cell?, hbx2]
      have dl := lt_blk hbx2
      have H2 : Hid _ := (H1.out.below hb2).below ((Below.refl _ _).alloc (Nat.le_refl _) (.cells #[.string x.gr, .int .i64 x.ch, .slice x.a x.ln x.cp, .bool x.any, .int .i64 x.till] 89))
      have hws : w.heap.size ≤ w2.heap.size := (H1.out.below hb2).bel.size
      have HSRC : Hid _ := srcE w2 x w2.heap.size rfl
      clear hbx2 hb2 HBX H1 HC
      cases hp : p x with
      | true =>
        have HF1 : Hid ((X.take (i + 1)).filter p = (X.take i).filter p ++ [x]) := by show _ = _; rw [hft]; simp [hp]
        have HF2 : Hid ((X.take (i + 1)).filter (fun x => !p x) = (X.take i).filter (fun x => !p x)) := by show _ = _; rw [hfn]; simp [hp]
        clear hft hfn hp
        have hrow := H2.out.r1
        rw [← HM.out.1] at hrow
        have HRow : Hid _ := hrow
        clear hrow
        go_wp2_with (at_builtin; refine wpList_own_append5 _ rfl _ _ 87 87 rfl w.heap.size 89 i0 _ 64 Tryz.underlying87 hi hz0 hz1 hz2 rfl _ m1 (((X.take i).filter p).flatMap Ep.cells) rfl HRow.out _ 1 x.cells rfl HSRC.out ?c3 ?c4 ?c5 ?_)
        case c3 => unfold maxLen; omega
        case c4 => omega
        case c5 => simp; omega
        intro v4 w4 ha4
        have hR4 := H2.out.app (x := x) (by rw [← HM.out.1]; exact ha4)
        obtain ⟨a4, c4, hv4⟩ := ha4.shape
        subst hv4
        have H4 : Hid (m1 + 1 = ((X.take (i + 1)).filter p).length ∧ m2 = ((X.take (i + 1)).filter (fun x => !p x)).length ∧ TwoE w w4 (.slice a4 (m1 + 1) c4) ((X.take (i + 1)).filter p) (.slice a2 m2 c2) ((X.take (i + 1)).filter (fun x => !p x))) := by
          rw [HF1.out, HF2.out]
          exact ⟨by rw [List.length_append, ← HM.out.1]; rfl, HM.out.2, hR4⟩
        clear ha4 hR4
        go_wp2
        go_roundg (n - (i + 1))
        case measure => omega
        case rel => exact ⟨i + 1, m1 + 1, c4, m2, c2, a4, a2, by go_num, by omega, rfl, rfl, rfl, by omega, H4⟩
      | false =>
        have HF1 : Hid ((X.take (i + 1)).filter p = (X.take i).filter p) := by show _ = _; rw [hft]; simp [hp]
        have HF2 : Hid ((X.take (i + 1)).filter (fun x => !p x) = (X.take i).filter (fun x => !p x) ++ [x]) := by show _ = _; rw [hfn]; simp [hp]
        clear hft hfn hp
        have hrow := H2.out.r2
        rw [← HM.out.2] at hrow
        have HRow : Hid _ := hrow
        clear hrow
        go_wp2_with (at_builtin; refine wpList_own_append5 _ rfl _ _ 87 87 rfl w.heap.size 89 i0 _ 64 Tryz.underlying87 hi hz0 hz1 hz2 rfl _ m2 (((X.take i).filter (fun x => !p x)).flatMap Ep.cells) rfl HRow.out _ 1 x.cells rfl HSRC.out ?c3 ?c4 ?c5 ?_)
        case c3 => unfold maxLen; omega
        case c4 => omega
        case c5 => simp; omega
        intro v4 w4 ha4
        have hR4 := (H2.out.swap.app (x := x) (by rw [← HM.out.2]; exact ha4)).swap
        obtain ⟨a4, c4, hv4⟩ := ha4.shape
        subst hv4
        have H4 : Hid (m1 = ((X.take (i + 1)).filter p).length ∧ m2 + 1 = ((X.take (i + 1)).filter (fun x => !p x)).length ∧ TwoE w w4 (.slice a1 m1 c1) ((X.take (i + 1)).filter p) (.slice a4 (m2 + 1) c4) ((X.take (i + 1)).filter (fun x => !p x))) := by
          rw [HF1.out, HF2.out]
          exact ⟨HM.out.1, by rw [List.length_append, ← HM.out.2]; rfl, hR4⟩
        clear ha4 hR4
        go_wp2
        go_roundg (n - (i + 1))
        case measure => omega
        case rel => exact ⟨i + 1, m1, c1, m2 + 1, c4, a1, a4, by go_num, by omega, rfl, rfl, rfl, by omega, H4⟩
    · have hi1 : ¬ (i : Int) < (n : Int) := by omega
      have htk : X.take i = X := List.take_of_length_le (by rw [← HN.out]; omega)
      rw [htk] at H
      have xr : wr.cell? ⟨r, 0, none⟩ = some (.slice a n cp) := (H.out.2.2.bel.cell (p := ⟨r, 0, none⟩) xl).trans x0
      have xf : wr.frozen? ⟨r, 0, none⟩ = false := by
        have hbx := (H.out.2.2.bel.block r xl).trans HT.out.box
        simp [World.frozen?, hbx]
      have xrl : r < wr.heap.size := Nat.lt_of_lt_of_le xl H.out.2.2.bel.size
      have HL : Hid _ := Tb.left HT.out hB (fun x => !p x) H.out.2.2
      have HM1 : Hid (m1 = (X.filter p).length) := H.out.1
      have HAP : Hid (∀ b, (Value.slice a1 m1 c1).ownBlock = some b → (Value.slice a2 m2 c2).ownBlock ≠ some b) := H.out.2.2.ap
      clear H htk
      go_wp2
      go_ret
      have hl := HL.out
      rw [HM1.out] at hl ⊢
      have hap := HAP.out
      rw [HM1.out] at hap
      exact ⟨a1, c1, rfl, _, hl.1, hl.2.1, hl.2.2, hap⟩
end Go.Proofs.YtmajlldfiiokoaaGreatDoor

/- table.Children: the list's filters are new ones. -/
namespace Go.Proofs.YtmajlldfiiokoaaGreatDoor
open Go.ChangeShapes Go.WideShapes Go.ChangeAt Go.RowKit
set_option linter.unusedVariables false

structure ERowN (w0 w : World) (v : Value) (Y : List Ep) : Prop where
  er : ERow w0 w v Y
  fr : ∀ y ∈ Y, ∀ b, y.a = some b → w0.heap.size ≤ b.block
theorem ERowN.bel {w0 w : World} {v : Value} {Y : List Ep} (h : ERowN w0 w v Y) : Below w0.heap.size w0 w := h.er.bel
theorem ERowN.row {w0 w : World} {v : Value} {Y : List Ep} (h : ERowN w0 w v Y) : w.ownsRow w0.heap.size 89 5 v Y.length (Y.flatMap Ep.cells) := h.er.row
theorem ERowN.below {w0 w w' : World} {v : Value} {Y : List Ep} (h : ERowN w0 w v Y) (hb : Below w.heap.size w w') : ERowN w0 w' v Y := ⟨h.er.below hb, h.fr⟩
theorem ERowN.nil {w0 w : World} (h : Below w0.heap.size w0 w) : ERowN w0 w (.slice none 0 0) [] := ⟨ERow.nil h, fun y hy => by cases hy⟩
theorem ERowN.app {w0 w w2 : World} {v v' : Value} {Y : List Ep} {x : Ep} (h : ERowN w0 w v Y) (hx : StrIn w x.a x.ln x.fs) (hl : x.ln ≤ 100000) (hc : ∀ b, x.a = some b → b.block < w.heap.size ∧ v.ownBlock ≠ some b.block ∧ w0.heap.size ≤ b.block)
    (ha : Appended5 w0.heap.size 89 w w2 v v' (Y.length + 1) (Y.flatMap Ep.cells ++ x.cells)) : ERowN w0 w2 v' (Y ++ [x]) :=
  ⟨h.er.app hx hl (fun b hb => ⟨(hc b hb).1, (hc b hb).2.1⟩) ha, fun y hy b hb => by
    rcases List.mem_append.1 hy with q | q
    · exact h.fr y q b hb
    · rw [List.mem_singleton.1 q] at hb; exact (hc b hb).2.2⟩

set_option maxRecDepth 100000 in
set_option maxHeartbeats 4000000 in
theorem children_new (B r : Nat) (v : Value) (X : List Ep) (g : ByteArray) (w : World) (h : Tb w B r v X) :
    Calls Tryz.prog 104 #[.pointer (some ⟨r, 0, none⟩), .string g] w fun e w' => ∃ v' Y, e = .returned v' ∧ ERowN w w' v' Y ∧ Y.map Ep.core = (X.filter (ofG g)).map Ep.core := by
  obtain ⟨i0, hi, hz0, hz1, hz2⟩ := infoEnt_parts
  obtain ⟨a, cp, hv⟩ := h.shape
  subst hv
  have hle := h.le
  obtain ⟨n, hn⟩ : ∃ n, n = X.length := ⟨_, rfl⟩
  rw [← hn] at h hle
  have HN : Hid (n = X.length) := hn
  have hent : EntIn w a n X := by rw [hn]; exact Tb.ent (by rw [← hn]; exact h)
  have HE : Hid (EntIn w a n X) := hent
  have HT : Hid _ := h
  have x0 := h.cell
  have xl := h.lt
  clear h hent hn
  go_enter Tryz.func104, Tryz.ntmps104
  go_wp2
  go_loopg [5, 13] n (fun kx s5 s13 wr => ∃ (i m c : Nat) (av : Option Addr) (Y : List Ep), s13 = .int .i64 i ∧ i ≤ n ∧ kx = n - i ∧ s5 = .slice av m c ∧ m ≤ i ∧ Hid (m = Y.length ∧ ERowN w wr (.slice av m c) Y ∧ Y.map Ep.core = ((X.take i).filter (ofG g)).map Ep.core))
  case atStart => exact ⟨0, 0, 0, none, [], rfl, Nat.zero_le _, rfl, rfl, Nat.le_refl _, (⟨rfl, ERowN.nil (Below.refl _ _), rfl⟩ : 0 = List.length _ ∧ ERowN _ _ _ _ ∧ _)⟩
  case round =>
    obtain ⟨i, m, c, av, Y, rfl, hin, rfl, rfl, hmi, H⟩ := hrel
    by_cases hlt : i < n
    · obtain ⟨b, o, ha, hb, hs, hln, c0, c1, c2, c3, c4⟩ := (HE.out.below H.out.2.1.bel).at hlt
      subst ha
      have hft := filter_take_succ (ofG g) X i (by rw [← HN.out]; exact hlt)
      obtain ⟨x, hx⟩ : ∃ x, x = X.getD i ep0 := ⟨_, rfl⟩
      rw [← hx] at hs hln c0 c1 c2 c3 c4 hft
      clear hx
      obtain ⟨gr, ch, fa, fl, fc, any, till, fs⟩ := x
      simp only at hs hln c0 c1 c2 c3 c4
      have hi0 : (0 : Int) ≤ (i : Int) := Int.natCast_nonneg _
      have hi1 : (i : Int) < (n : Int) := by omega
      obtain ⟨w1, hw1⟩ : ∃ w1, w1 = wr.alloc (.cells #[.string gr, .int .i64 ch, .slice fa fl fc, .bool any, .int .i64 till] 89) := ⟨_, rfl⟩
      have hbx1 : w1.heap[wr.heap.size]? = some (.cells #[.string gr, .int .i64 ch, .slice fa fl fc, .bool any, .int .i64 till] 89 (0, 0)) := by rw [hw1]; exact heap_alloc_new wr _
      have b01 : Below wr.heap.size wr w1 := by rw [hw1]; exact (Below.refl _ _).alloc (Nat.le_refl _) _
      have HR0 : Hid (m = Y.length ∧ ERowN w wr (.slice av m c) Y) := ⟨H.out.1, H.out.2.1⟩
      have HY : Hid (Y.map Ep.core = ((X.take i).filter (ofG g)).map Ep.core) := H.out.2.2
      have HS1 : Hid (StrIn w1 fa fl fs) := hs.below (Nat.le_refl _) b01
      clear hs H
      by_cases hg : gr.toList = g.toList
      · have hg' : (gr.toList == g.toList) = true := by simpa using hg
        have HF : Hid ((X.take (i + 1)).filter (ofG g) = (X.take i).filter (ofG g) ++ [⟨gr, ch, fa, fl, fc, any, till, fs⟩]) := by
          show _ = _
          rw [hft]; simp [ofG, hg]
        clear hft
        have hz1' : wr.heap.size < w1.heap.size := lt_blk hbx1
        go_wp2_with fail
        rw [← hw1]
        clear hw1 c0 c1 c2 c3 c4
        refine (clone_s fa fl fc fs w1 HS1.out hln).mono ?_
        rintro e w2 ⟨a2, c2, rfl, hs2, b12, hnew⟩
        have hbx2 : w2.heap[wr.heap.size]? = some (.cells #[.string gr, .int .i64 ch, .slice fa fl fc, .bool any, .int .i64 till] 89 (0, 0)) := (b12.block _ hz1').trans hbx1
        have d0 : w2.cell? ⟨wr.heap.size, 0, none⟩ = some (.string gr) := by simp [World.cell?, hbx2]
        have d1 : w2.cell? ⟨wr.heap.size, 1, none⟩ = some (.int .i64 ch) := by simp [World.cell?, hbx2]
        have d2 : w2.cell? ⟨wr.heap.size, 2, none⟩ = some (.slice fa fl fc) := by simp [World.cell?, hbx2]
        have d3 : w2.cell? ⟨wr.heap.size, 3, none⟩ = some (.bool any) := by simp [World.cell?, hbx2]
        have d4 : w2.cell? ⟨wr.heap.size, 4, none⟩ = some (.int .i64 till) := by simp [World.cell?, hbx2]
        have df : ∀ o, w2.frozen? ⟨wr.heap.size, o, none⟩ = false := fun o => by simp [World.frozen?, hbx2]
        have dl := lt_blk hbx2
        obtain ⟨w3, hw3⟩ : ∃ w3, w3 = w2.setCell ⟨wr.heap.size, 2, none⟩ (.slice a2 fl c2) := ⟨_, rfl⟩
        have b02 : Below wr.heap.size wr w3 := by rw [hw3]; exact (b01.trans (b12.mono (by omega))).setCell (p := ⟨wr.heap.size, 2, none⟩) (Nat.le_refl _) _
        have hR3 : ERowN w (w3.alloc (.cells #[.string gr, .int .i64 ch, .slice a2 fl c2, .bool any, .int .i64 till] 89)) (.slice av m c) Y := HR0.out.2.below (b02.alloc b02.size _)
        have hz3 : w3.heap.size = w2.heap.size := by rw [hw3]; simp [World.setCell]
        have hs3 : StrIn (w3.alloc (.cells #[.string gr, .int .i64 ch, .slice a2 fl c2, .bool any, .int .i64 till] 89)) a2 fl fs := hs2.at (by simp; omega) (fun b hb => by
          rw [Below.heap_alloc _ _ _ (by rw [hz3]; exact (hnew b hb).2), hw3]
          exact setCell_heap (by have := (hnew b hb).1; omega) _)
        have HX : Hid (ERowN w (w3.alloc (.cells #[.string gr, .int .i64 ch, .slice a2 fl c2, .bool any, .int .i64 till] 89)) (.slice av m c) Y ∧ StrIn (w3.alloc (.cells #[.string gr, .int .i64 ch, .slice a2 fl c2, .bool any, .int .i64 till] 89)) a2 fl fs ∧ ∀ b, a2 = some b → b.block < (w3.alloc (.cells #[.string gr, .int .i64 ch, .slice a2 fl c2, .bool any, .int .i64 till] 89)).heap.size ∧ (Value.slice av m c).ownBlock ≠ some b.block ∧ w.heap.size ≤ b.block) := ⟨hR3, hs3, fun b hb => ⟨by have := (hnew b hb).2; simp; omega, fun e => by have h1 := (HR0.out.2.row.lt _ e).2; have h2 := (hnew b hb).1; omega, by have h2 := (hnew b hb).1; have h3 := b01.size; have h4 := HR0.out.2.bel.size; omega⟩⟩
        have HB2 : Hid _ := b02
        have HW3 : Hid (w2.setCell ⟨wr.heap.size, 2, none⟩ (.slice a2 fl c2) = w3) := hw3.symm
        have hrow : (w3.alloc (.cells #[.string gr, .int .i64 ch, .slice a2 fl c2, .bool any, .int .i64 till] 89)).ownsRow w.heap.size 89 5 (.slice av m c) m (Y.flatMap Ep.cells) := by have := hR3.row; rw [← HR0.out.1] at this; exact this
        have HRow : Hid _ := hrow
        have hws : w.heap.size ≤ w3.heap.size := Nat.le_trans HR0.out.2.bel.size b02.size
        have HSRC : Hid _ := srcE w3 ⟨gr, ch, a2, fl, c2, any, till, fs⟩ w3.heap.size rfl
        simp only at HSRC
        rw [hz3] at HSRC
        clear hbx1 hbx2 hs2 b12 hnew hR3 hs3 b01 b02 hw3 hrow
        go_wp2_with (at_builtin; rw [HW3.out]; refine wpList_own_append5 _ rfl _ _ 87 87 rfl w.heap.size 89 i0 _ 64 Tryz.underlying87 hi hz0 hz1 hz2 rfl _ m (Y.flatMap Ep.cells) rfl HRow.out _ 1 (Ep.cells ⟨gr, ch, a2, fl, c2, any, till, fs⟩) rfl HSRC.out ?c3 ?c4 ?c5 ?_)
        case c3 => unfold maxLen; omega
        case c4 => omega
        case c5 => simp; omega
        intro v4 w4 ha4
        have hR4 := HX.out.1.app (x := ⟨gr, ch, a2, fl, c2, any, till, fs⟩) HX.out.2.1 hln HX.out.2.2 (by rw [← HR0.out.1]; exact ha4)
        obtain ⟨a4, c4, hv4⟩ := ha4.shape
        subst hv4
        have H4 : Hid (m + 1 = (Y ++ [(⟨gr, ch, a2, fl, c2, any, till, fs⟩ : Ep)]).length ∧ ERowN w w4 (.slice a4 (m + 1) c4) (Y ++ [⟨gr, ch, a2, fl, c2, any, till, fs⟩]) ∧ (Y ++ [(⟨gr, ch, a2, fl, c2, any, till, fs⟩ : Ep)]).map Ep.core = ((X.take (i + 1)).filter (ofG g)).map Ep.core) := ⟨by simp [HR0.out.1], hR4, by rw [HF.out]; exact fil_snoc HY.out rfl⟩
        clear ha4 hR4
        go_wp2
        go_roundg (n - (i + 1))
        case measure => omega
        case rel => exact ⟨i + 1, m + 1, c4, a4, _, by go_num, by omega, rfl, rfl, by omega, H4⟩
      · have hg' : (gr.toList == g.toList) = false := by simpa using hg
        have HF : Hid ((X.take (i + 1)).filter (ofG g) = (X.take i).filter (ofG g)) := by
          show _ = _
          rw [hft]; simp [ofG, hg]
        have H4 : Hid (m = Y.length ∧ ERowN w w1 (.slice av m c) Y ∧ Y.map Ep.core = ((X.take (i + 1)).filter (ofG g)).map Ep.core) := ⟨HR0.out.1, HR0.out.2.below b01, by rw [HF.out]; exact HY.out⟩
        rw [hw1] at H4
        clear hft hbx1 b01 HS1 hw1
        go_wp2
        go_roundg (n - (i + 1))
        case measure => omega
        case rel => exact ⟨i + 1, m, c, av, Y, by go_num, by omega, rfl, rfl, by omega, H4⟩
    · have hi1 : ¬ (i : Int) < (n : Int) := by omega
      have HF : Hid (Y.map Ep.core = (X.filter (ofG g)).map Ep.core) := by
        show _ = _
        rw [H.out.2.2, List.take_of_length_le (by rw [← HN.out]; omega)]
      go_wp2
      go_ret
      exact ⟨_, rfl, Y, H.out.2.1, HF.out⟩

end Go.Proofs.YtmajlldfiiokoaaGreatDoor

/- table.Expire; Put into a full table. -/
namespace Go.Proofs.YtmajlldfiiokoaaGreatDoor
open Go.ChangeShapes Go.WideShapes Go.ChangeAt Go.RowKit
set_option linter.unusedVariables false

end Go.Proofs.YtmajlldfiiokoaaGreatDoor

/- table.Move, Expire; Groups of an empty table. -/
namespace Go.Proofs.YtmajlldfiiokoaaGreatDoor
open Go.ChangeShapes Go.WideShapes Go.ChangeAt Go.RowKit
set_option linter.unusedVariables false

theorem groups_nil (B r : Nat) (v : Value) (w : World) (h : Tb w B r v []) :
    Calls Tryz.prog 84 #[.pointer (some ⟨r, 0, none⟩)] w fun e w' => e = .returned (.slice none 0 0) ∧ w' = w := by
  obtain ⟨a, c, hv⟩ := h.shape
  subst hv
  have x0 := h.cell
  have xl := h.lt
  clear h
  simp only [List.length_nil] at x0
  go_enter Tryz.func84, Tryz.ntmps84
  go_wp2
  refine wp_loop_rounds 1 ?_
  rw [rounds_succ]
  go_wp2_with (go_at_call 63; refine (Tryz.slices_Compact_string_empty none 0 _).mono ?_; rintro e w' ⟨rfl, rfl⟩)
  go_ret
  exact ⟨rfl, rfl⟩
theorem in_all (k a : Int) : inB k a a = true := by simp [inB]
theorem OwnT.groups {B : Nat} {w0 w : World} {r : Nat} (h : OwnT B w0 w r []) :
    Calls Tryz.prog 84 #[.pointer (some ⟨r, 0, none⟩)] w fun e w' => e = .returned (.slice none 0 0) ∧ w' = w := by
  obtain ⟨v, hv⟩ := h.tab
  exact groups_nil B r v w hv
end Go.Proofs.YtmajlldfiiokoaaGreatDoor

/- What wigwaglaw01.Cut answers: at most n bytes. -/
namespace Go.Proofs.YtmajlldfiiokoaaGreatDoor
open Go.ChangeShapes Go.WideShapes Go.ChangeAt Go.RowKit
set_option linter.unusedVariables false

theorem cut_any (s : ByteArray) (n : Nat) (w : World) (hs : s.size ≤ maxLen) :
    Calls Tryz.prog 82 #[.string s, .int .i64 n] w fun e w' => e = .returned (.string (cut s n)) ∧ w' = w := by
  unfold maxLen at hs
  by_cases h : n < s.size
  · have H : Hid (cut s n = s.extract 0 n) := (if_pos h : cut s n = s.extract 0 n)
    go_enter Tryz.func82, Tryz.ntmps82
    go_wp2
    go_ret
    exact ⟨by rw [H.out]; rfl, rfl⟩
  · have H : Hid (cut s n = s) := (if_neg h : cut s n = s)
    go_enter Tryz.func82, Tryz.ntmps82
    go_wp2
    go_ret
    exact ⟨by rw [H.out]; rfl, rfl⟩
end Go.Proofs.YtmajlldfiiokoaaGreatDoor

/- wigwaglaw13.Cut. -/
namespace Go.Proofs.YtmajlldfiiokoaaGreatDoor
open Go.ChangeShapes Go.WideShapes Go.ChangeAt Go.RowKit
set_option linter.unusedVariables false

/-- At most 20 filters of at most 30 bytes. -/
def cutF (fs : List ByteArray) : List ByteArray := (fs.take 20).map (fun s => cut s 30)
structure CutS (w wr : World) (z : Nat) (gr : ByteArray) (ch : Int) (fa : Option Addr) (fl fc : Nat) (any : Bool) (till : Int) (fs : List ByteArray) (i : Nat) (v : Value) : Prop where
  b1 : wr.heap[w.heap.size]? = some (.cells #[.string gr, .int .i64 ch, .slice fa fl fc, .bool any, .int .i64 till] 89 (0, 0))
  b2 : wr.heap[w.heap.size + 1]? = some (.cells #[.string ⟨#[]⟩, .int .i64 0, .slice none 0 0, .bool false, .int .i64 0] 89 (0, 0))
  b3 : wr.heap[z]? = some (.cells #[.string (cut gr 30), .int .i64 ch, v, .bool any, .int .i64 till] 89 (0, 0))
  row : wr.ownsRow w.heap.size 9 1 v i (((fs.take i).map (fun s => cut s 30)).map Value.string)
  ap : ∀ b, v.ownBlock = some b → b ≠ w.heap.size ∧ b ≠ w.heap.size + 1 ∧ b ≠ z
  hz : w.heap.size + 1 < z
  bel : Below w.heap.size w wr

theorem CutS.step {w wr w6 : World} {z : Nat} {gr : ByteArray} {ch : Int} {fa : Option Addr} {fl fc : Nat} {any : Bool} {till : Int} {fs : List ByteArray} {i c gg cap : Nat} {av : Option Addr} {t : ByteArray} (H : CutS w wr z gr ch fa fl fc any till fs i (.slice av i c))
    (hown : w6.ownsRow w.heap.size 9 1 (.slice (some ⟨gg, 0, none⟩) (i + 1) cap) (i + 1) (((fs.take i).map (fun s => cut s 30)).map Value.string ++ [.string t]))
    (hg : (wr.drew.alloc (.cells #[.string t] 9)).grownBy w6 (Value.slice av i c).ownBlock) (hat : (Value.slice av i c).ownBlock = some gg ∨ gg = wr.heap.size + 1) (hst : (fs.take (i + 1)).map (fun s => cut s 30) = (fs.take i).map (fun s => cut s 30) ++ [t]) :
    CutS w (w6.setCell ⟨z, 2, none⟩ (.slice (some ⟨gg, 0, none⟩) (i + 1) cap)) z gr ch fa fl fc any till fs (i + 1) (.slice (some ⟨gg, 0, none⟩) (i + 1) cap) := by
  have hl1 := lt_blk H.b1
  have hl2 := lt_blk H.b2
  have hl3 := lt_blk H.b3
  have hz := H.hz
  have hbk : ∀ k, k < wr.heap.size → (Value.slice av i c).ownBlock ≠ some k → w6.heap[k]? = wr.heap[k]? := fun k hk hne =>
    (hg.block k (by simp; omega) (fun e => hne e.symm)).trans (Below.heap_alloc wr.drew _ k hk)
  have hgg : gg ≠ w.heap.size ∧ gg ≠ w.heap.size + 1 ∧ gg ≠ z := by
    rcases hat with q | q
    · exact H.ap gg q
    · subst q; refine ⟨?_, ?_, ?_⟩ <;> omega
  refine ⟨?_, ?_, ?_, ?_, fun b hb => ?_, hz, ?_⟩
  · rw [setCell_heap (by omega)]; exact (hbk _ hl1 (fun e => (H.ap _ e).1 rfl)).trans H.b1
  · rw [setCell_heap (by omega)]; exact (hbk _ hl2 (fun e => (H.ap _ e).2.1 rfl)).trans H.b2
  · have h3 := (hbk _ hl3 (fun e => (H.ap _ e).2.2 rfl)).trans H.b3
    simp only [World.setCell, Array.getElem?_modify]; rw [h3]; simp
  · rw [hst, List.map_append]
    exact row_atJ hown (fun k hk => setCell_heap (by simp [Value.ownBlock] at hk; omega) _)
  · simp [Value.ownBlock] at hb; rw [← hb]; exact hgg
  · refine H.bel.trans ⟨hg.os, hg.tape, hg.output, ?_, fun k hk => ?_⟩
    · have := hg.size; simp at this; simp [World.setCell]; omega
    · rw [setCell_heap (by omega)]
      exact hbk k (by have := H.bel.size; omega) (fun e => by have := (H.row.lt k e).1; omega)
theorem cut_take {fs : List ByteArray} {i fl : Nat} (hl : fs.length = fl) (h : ¬ (i < fl ∧ i < 20)) (h1 : i ≤ fl) (h2 : i ≤ 20) : (fs.take i).map (fun s => cut s 30) = cutF fs := by
  unfold cutF
  by_cases q : i = 20
  · rw [q]
  · have : i = fl := by omega
    rw [List.take_of_length_le (by omega), List.take_of_length_le (by omega)]

end Go.Proofs.YtmajlldfiiokoaaGreatDoor

/- Rows of entries that came in. -/
namespace Go.Proofs.YtmajlldfiiokoaaGreatDoor
open Go.ChangeShapes Go.WideShapes Go.ChangeAt Go.RowKit Go.Deep
set_option linter.unusedVariables false
set_option linter.unnecessarySimpa false
/-- An entry that came in: its texts, its filters. -/
def EpOk (W : World) (x : Ep) : Prop := x.gr.size ≤ maxLen ∧ i64 x.ch ∧ i64 x.till ∧ StrIn W x.a x.ln x.fs ∧ (∀ s ∈ x.fs, s.size ≤ maxLen) ∧ x.ln ≤ maxLen
section
variable {H : Type} {enc' : TypeId × Value → H} {W : World}
theorem cellsB1T : Tryz.prog.cellsOf 4 = 1 := by kernel_rfl
theorem cellsSl1 : Tryz.prog.cellsOf 55 = 1 := by kernel_rfl
theorem cellsEnt : Tryz.prog.cellsOf 89 = 5 := by kernel_rfl
theorem strIn_of {a : Option Addr} {len : Nat} {xs : List ByteArray} (h : InRow 1 encS okS ByteArray.empty W a len xs) : StrIn W a len xs ∧ ∀ s ∈ xs, len = 0 ∨ s.size ≤ maxLen := by
  refine ⟨⟨h.1, ?_⟩, fun s hs => ?_⟩
  · rcases h.2.2 with h0 | ⟨b, o, ha, hlt, hc⟩
    · exact .inl h0
    · refine .inr ⟨b, o, ha, hlt, fun j hj => ?_⟩
      have := (hc j hj).2 0 (by omega)
      simpa [encS] using this
  · rcases h.2.2 with h0 | ⟨b, o, ha, hlt, hc⟩
    · exact .inl h0
    · obtain ⟨t, ht, rfl⟩ := mem_getDL ByteArray.empty hs
      have := (hc t (by rw [← h.1]; exact ht)).1
      unfold okS at this
      exact .inr (by unfold maxLen; exact this)
set_option maxRecDepth 100000 in
theorem ent_of (n : Nat) (cs : List Value) (x : DataW H × List MemPlace) (h : DataW.trod enc' Tryz.prog W 0 (fun _ => true) true n 89 cs = some x) : ∃ t : Ep, cs = t.cells ∧ EpOk W t := by
  obtain ⟨xs, m, _, _, hl, hlen, hf⟩ := DataW.trod_struct Tryz.underlying89 h
  rw [cellsEnt] at hl
  match cs, hl with
  | [c0, c1, c2, c3, c4], _ =>
    match xs, hlen with
    | [y0, y1, y2, y3, y4], _ =>
      have f0 := hf 0 _ rfl
      have f1 := hf 1 _ rfl
      have f2 := hf 2 _ rfl
      have f3 := hf 3 _ rfl
      have f4 := hf 4 _ rfl
      simp [cellsI1, cellsS1, cellsB1T, cellsSl1] at f0 f1 f2 f3 f4
      obtain ⟨s, e0, _, ws⟩ := DataW.trod_string Tryz.underlying9 f0
      obtain ⟨k, e1, _, wk⟩ := DataW.trod_int Tryz.underlying3 f1
      obtain ⟨b, e3, _⟩ := DataW.trod_bool Tryz.underlying4 f3
      obtain ⟨t, e4, _, wt⟩ := DataW.trod_int Tryz.underlying3 f4
      simp at e0 e1 e3 e4
      subst e0 e1 e3 e4
      obtain ⟨a, len, cap, hcap, rfl⟩ : ∃ a len cap, len ≤ maxLen ∧ c2 = .slice a len cap := by
        rcases DataW.trod_slice Tryz.underlying55 f2 with ⟨e, _⟩ | ⟨a, len, cap, _, _, _, _, e, _, _, h1, h2, _⟩
        · simp at e; exact ⟨none, 0, 0, by simp, e⟩
        · simp at e; exact ⟨some a, len, cap, by omega, e⟩
      obtain ⟨fs, hfs⟩ := inrow_of 1 encS okS ByteArray.empty 55 9 Tryz.underlying55 cellsS1 (by omega) lenS (fun n cs x => str_of n cs x) (a := a) (len := len) (cap := cap) (fuel := m) f2
      obtain ⟨q1, q2⟩ := strIn_of hfs
      refine ⟨⟨s, k, a, len, cap, b, t, fs⟩, rfl, ws, bounds_i64 wk, bounds_i64 wt, q1, fun u hu => ?_, hcap⟩
      rcases q2 u hu with h0 | h0
      · have : fs.length = 0 := by rw [q1.1, h0]
        rw [List.eq_nil_of_length_eq_zero this] at hu; cases hu
      · exact h0
end
end Go.Proofs.YtmajlldfiiokoaaGreatDoor

/- wigwaglaw13.Cut: the filters of what it answers lie in a new place. -/
namespace Go.Proofs.YtmajlldfiiokoaaGreatDoor
open Go.ChangeShapes Go.WideShapes Go.ChangeAt Go.RowKit
set_option linter.unusedVariables false

set_option maxRecDepth 100000 in
set_option maxHeartbeats 4000000 in
theorem cut13_new (gr : ByteArray) (ch : Int) (fa : Option Addr) (fl fc : Nat) (any : Bool) (till : Int) (fs : List ByteArray) (w : World) (hf : StrIn w fa fl fs) (hg : gr.size ≤ maxLen) (hfs : ∀ s ∈ fs, s.size ≤ maxLen) (hfl : fl ≤ maxLen) :
    Calls Tryz.prog 39 #[.agg #[.string gr, .int .i64 ch, .slice fa fl fc, .bool any, .int .i64 till]] w fun e w' =>
      ∃ a' n' c', e = .returned (.agg #[.string (cut gr 30), .int .i64 ch, .slice a' n' c', .bool any, .int .i64 till]) ∧ StrIn w' a' n' (cutF fs) ∧ n' ≤ 20 ∧ Below w.heap.size w w' ∧ ∀ b, a' = some b → w.heap.size ≤ b.block ∧ b.block < w'.heap.size := by
  obtain ⟨i0, hi, hz0, hz1, hz2⟩ := infoStr_parts
  have HF : Hid (StrIn w fa fl fs) := hf
  have HG : Hid _ := hfs
  obtain ⟨W0, hW0⟩ : ∃ W0, W0 = (w.alloc (.cells #[.string gr, .int .i64 ch, .slice fa fl fc, .bool any, .int .i64 till] 89)).alloc (.cells #[.string ⟨#[]⟩, .int .i64 0, .slice none 0 0, .bool false, .int .i64 0] 89) := ⟨_, rfl⟩
  have k1 : W0.heap[w.heap.size]? = some (.cells #[.string gr, .int .i64 ch, .slice fa fl fc, .bool any, .int .i64 till] 89 (0, 0)) := by
    rw [hW0, Below.heap_alloc _ _ _ (by simp)]; exact heap_alloc_new w _
  have k2 : W0.heap[w.heap.size + 1]? = some (.cells #[.string ⟨#[]⟩, .int .i64 0, .slice none 0 0, .bool false, .int .i64 0] 89 (0, 0)) := by
    rw [hW0]; have := heap_alloc_new (w.alloc (.cells #[.string gr, .int .i64 ch, .slice fa fl fc, .bool any, .int .i64 till] 89)) (.cells #[.string ⟨#[]⟩, .int .i64 0, .slice none 0 0, .bool false, .int .i64 0] 89); simpa using this
  have bw : Below w.heap.size w W0 := by rw [hW0]; exact ((Below.refl _ _).alloc (Nat.le_refl _) _).alloc (by simp) _
  have y0 : W0.cell? ⟨w.heap.size, 0, none⟩ = some (.string gr) := by simp [World.cell?, k1]
  have y1 : W0.cell? ⟨w.heap.size, 1, none⟩ = some (.int .i64 ch) := by simp [World.cell?, k1]
  have y3 : W0.cell? ⟨w.heap.size, 3, none⟩ = some (.bool any) := by simp [World.cell?, k1]
  have y4 : W0.cell? ⟨w.heap.size, 4, none⟩ = some (.int .i64 till) := by simp [World.cell?, k1]
  have yl := lt_blk k1
  have hz2' : W0.heap.size = w.heap.size + 2 := by rw [hW0]; simp
  have HK : Hid _ := (⟨k1, k2, bw⟩ : _ ∧ _ ∧ _)
  have HZ : Hid _ := hz2'
  clear hf hfs k1 k2 bw hz2'
  go_enter Tryz.func39, Tryz.ntmps39
  go_upto_region 1 with fail
  rw [← hW0]
  clear hW0
  go_cut [3] (fun v wx => ∃ z, v = .pointer (some ⟨z, 0, none⟩) ∧ Hid (CutS w wx z gr ch fa fl fc any till fs 0 (.slice none 0 0)))
  case first =>
    go_region_held3 (fun w' => w'.cell? ⟨w.heap.size, 0, none⟩ = some (.string gr) ∧ w'.cell? ⟨w.heap.size, 1, none⟩ = some (.int .i64 ch) ∧ w'.cell? ⟨w.heap.size, 3, none⟩ = some (.bool any) ∧ w'.cell? ⟨w.heap.size, 4, none⟩ = some (.int .i64 till))
      (first
        | go_keep
        | assumption)
      (first
        | (go_at_call 82; refine (cut_any gr 30 _ hg).mono ?_; rintro e w' ⟨rfl, hw'⟩; subst w'))
    all_goals (try go_wp2_with fail)
    all_goals go_meet
    all_goals
      refine ⟨_, rfl, (⟨?_, ?_, ?_, World.ownsRow_nil _ _ _ _, (fun b hb => by simp [Value.ownBlock] at hb), by have := HZ.out; simp; omega, ?_⟩ : CutS _ _ _ _ _ _ _ _ _ _ _ _ _)⟩
      · exact (Below.heap_alloc W0 _ _ (by have := HZ.out; omega)).trans HK.out.1
      · exact (Below.heap_alloc W0 _ _ (by have := HZ.out; omega)).trans HK.out.2.1
      · exact heap_alloc_new W0 _
      · exact HK.out.2.2.trans ⟨rfl, rfl, rfl, by simp, fun k hk => Below.heap_alloc W0 _ _ (by have := HZ.out; omega)⟩
  case rest =>
    obtain ⟨z, rfl, H0⟩ := hcut
    rename World => w0
    clear y0 y1 y3 y4 yl HK HZ
    go_wp2
    go_loopg [4] 20 (fun kx s wr => ∃ (i c : Nat) (av : Option Addr), s = .int .i64 i ∧ i ≤ fl ∧ i ≤ 20 ∧ kx = 20 - i ∧ Hid (CutS w wr z gr ch fa fl fc any till fs i (.slice av i c)))
    case atStart => exact ⟨0, 0, none, rfl, Nat.zero_le _, by omega, rfl, H0⟩
    case round =>
      obtain ⟨i, c, av, rfl, hil, hi20, rfl, H⟩ := hrel
      rename World => wr
      clear H0
      have d2 : wr.cell? ⟨w.heap.size, 2, none⟩ = some (.slice fa fl fc) := by simp [World.cell?, H.out.b1]
      have dl := lt_blk H.out.b1
      have e2 : wr.cell? ⟨z, 2, none⟩ = some (.slice av i c) := by simp [World.cell?, H.out.b3]
      have el := lt_blk H.out.b3
      have hi0 : (0 : Int) ≤ (i : Int) := Int.natCast_nonneg _
      unfold maxLen at hfl
      by_cases hlt : i < fl ∧ i < 20
      · obtain ⟨hl1, hl2⟩ := hlt
        have hi1 : (i : Int) < (fl : Int) := by omega
        have hi2 : (i : Int) < 20 := by omega
        obtain ⟨b, o, ha, hb, hc⟩ := HF.out.2.resolve_left (by omega)
        subst ha
        have hbw : b < wr.heap.size := by have := H.out.bel.size; omega
        have hci : wr.cell? ⟨b, o + i, none⟩ = some (.string (fs.getD i ByteArray.empty)) := (H.out.bel.cell (p := ⟨b, o + i, none⟩) hb).trans (hc i hl1)
        have hfl' : i < fs.length := by have := HF.out.1; omega
        have hss : (fs.getD i ByteArray.empty).size ≤ maxLen := HG.out _ (getD_memL _ fs i hfl')
        have hstep : (fs.take (i + 1)).map (fun s => cut s 30) = (fs.take i).map (fun s => cut s 30) ++ [cut (fs.getD i ByteArray.empty) 30] := by
          rw [List.take_succ_eq_append_getElem hfl', List.map_append, getD_getElemL ByteArray.empty fs i hfl']; rfl
        obtain ⟨s, hs⟩ : ∃ s, s = fs.getD i ByteArray.empty := ⟨_, rfl⟩
        rw [← hs] at hci hss hstep
        have HST : Hid _ := hstep
        clear hs hstep hc
        obtain ⟨t, ht⟩ : ∃ t, t = cut s 30 := ⟨_, rfl⟩
        have HT : Hid (cut s 30 = t) := ht.symm
        clear ht
        have hrow := H.out.row
        go_upto_region 5 with fail
        go_region_law
          (first
            | (refine step_append_lies _ (by rfl) _ _ _ (by rfl) w.heap.size 9 i0 _ 1 16 Tryz.underlying55 hi hz0 hz1 hz2 rfl (by omega) _ _ _ (by rfl) (row_atJ (w' := wr.drew.alloc (.cells #[.string t] 9)) hrow (fun k hk => Below.heap_alloc wr.drew _ _ (hrow.lt k hk).2))
                ⟨wr.heap.size, 0, none⟩ 1 1 [.string t] (by rfl) (by rfl) (World.news_of_block (cs := #[.string t]) (t := 9) (fr := (0, 0)) (heap_alloc_new wr.drew _)) (by simp [Value.oneCell'])
                (by omega) (by unfold maxLen; omega) (by omega) (by have := H.out.bel.size; simp; omega) (wr.heap.size + 1) (by simp) ?_; intro gg cap w6 hown1 hgrow hat hlt3
               have hb3 : w6.heap[z]? = some (.cells #[.string (cut gr 30), .int .i64 ch, .slice av i c, .bool any, .int .i64 till] 89 (0, 0)) := (hgrow.block z (by simp; omega) (fun e => (H.out.ap z e.symm).2.2 rfl)).trans ((Below.heap_alloc wr.drew _ z el).trans H.out.b3)
               have hf2 : w6.frozen? ⟨z, 2, none⟩ = false := by simp [World.frozen?, hb3]
               have hk1 : w6.cell? ⟨z, 2, none⟩ = some (.slice av i c) := by simp [World.cell?, hb3]
               have hl2' := lt_blk hb3)
            | (go_simp; go_at_call 82; refine (cut_any s 30 _ hss).mono ?_; rintro e w' ⟨rfl, hw'⟩; subst w'; rw [HT.out]))
        all_goals
          have HN : Hid (CutS w (w6.setCell ⟨z, 2, none⟩ (.slice (some ⟨gg, 0, none⟩) (i + 1) cap)) z gr ch (some ⟨b, o, none⟩) fl fc any till fs (i + 1) (.slice (some ⟨gg, 0, none⟩) (i + 1) cap)) := H.out.step hown1 hgrow hat (by rw [HST.out, HT.out])
          clear hown1 hgrow hat hlt3 hb3 hf2 hk1 hl2'
          go_wp2
          go_roundg (20 - (i + 1))
          case measure => omega
          case rel => exact ⟨i + 1, cap, _, by go_num, by omega, by omega, rfl, HN⟩
      · have hor : (True ∧ ¬ (i : Int) < (fl : Int)) ∨ ((i : Int) < (fl : Int) ∧ ¬ (i : Int) < 20) := by
          by_cases q : (i : Int) < (fl : Int)
          · exact .inr ⟨q, by omega⟩
          · exact .inl ⟨trivial, q⟩
        have HC : Hid ((fs.take i).map (fun s => cut s 30) = cutF fs) := cut_take HF.out.1 hlt hil hi20
        clear hlt
        have e0 : wr.cell? ⟨z, 0, none⟩ = some (.string (cut gr 30)) := by simp [World.cell?, H.out.b3]
        have e1 : wr.cell? ⟨z, 1, none⟩ = some (.int .i64 ch) := by simp [World.cell?, H.out.b3]
        have e3 : wr.cell? ⟨z, 3, none⟩ = some (.bool any) := by simp [World.cell?, H.out.b3]
        have e4 : wr.cell? ⟨z, 4, none⟩ = some (.int .i64 till) := by simp [World.cell?, H.out.b3]
        have g0 : wr.cell? ⟨w.heap.size + 1, 0, none⟩ = some (.string ⟨#[]⟩) := by simp [World.cell?, H.out.b2]
        have g1 : wr.cell? ⟨w.heap.size + 1, 1, none⟩ = some (.int .i64 0) := by simp [World.cell?, H.out.b2]
        have g2 : wr.cell? ⟨w.heap.size + 1, 2, none⟩ = some (.slice none 0 0) := by simp [World.cell?, H.out.b2]
        have g3 : wr.cell? ⟨w.heap.size + 1, 3, none⟩ = some (.bool false) := by simp [World.cell?, H.out.b2]
        have g4 : wr.cell? ⟨w.heap.size + 1, 4, none⟩ = some (.int .i64 0) := by simp [World.cell?, H.out.b2]
        have gf : ∀ o, wr.frozen? ⟨w.heap.size + 1, o, none⟩ = false := fun o => by simp [World.frozen?, H.out.b2]
        have gl := lt_blk H.out.b2
        have hzne : z ≠ w.heap.size + 1 := by have := H.out.hz; omega
        generalize hcg : cut gr 30 = cg at e0 H
        have HCG : Hid (cut gr 30 = cg) := hcg
        clear hcg
        rcases hor with ⟨hor', hor⟩ | ⟨hor', hor⟩
        all_goals
          go_wp2
          refine bodyPost_ret (v := .agg #[.string cg, .int .i64 ch, .slice av i c, .bool any, .int .i64 till]) (by simp [results, Tryz.results39, go_sem, g0, g1, g2, g3, g4]) rfl ?_
          have hln : ((fs.take i).map (fun s => cut s 30)).length = i := by rw [List.length_map, List.length_take, HF.out.1]; omega
          have hst := strIn_own H.out.row hln.symm
          rw [HC.out] at hst
          refine ⟨av, i, ⟨c, by rw [HCG.out]⟩, ?_, hi20, ?_, fun b hb => ⟨(H.out.row.lt b.block (by rw [hb]; rfl)).1, by have := (H.out.row.lt b.block (by rw [hb]; rfl)).2; simpa [World.setCell] using this⟩⟩
          · refine hst.at (by simp [World.setCell]) (fun b hb => ?_)
            have hne : b.block ≠ w.heap.size + 1 := (H.out.ap b.block (by rw [hb]; rfl)).2.1
            exact (setCell_heap hne _).trans ((setCell_heap hne _).trans ((setCell_heap hne _).trans ((setCell_heap hne _).trans (setCell_heap hne _))))
          · iterate 5 refine Below.setCell ?_ (Nat.le_succ _) _
            exact H.out.bel
/-- What Cut makes of one that came in; its filters lie in a new place. -/
theorem cutNew {w wr : World} {x : Ep} (hx : EpOk w x) (hB : Below w.heap.size w wr) :
    Calls Tryz.prog 39 #[.agg #[.string x.gr, .int .i64 x.ch, .slice x.a x.ln x.cp, .bool x.any, .int .i64 x.till]] wr fun e w' =>
      ∃ a' n' c', e = .returned (.agg #[.string (cut x.gr 30), .int .i64 x.ch, .slice a' n' c', .bool x.any, .int .i64 x.till]) ∧ StrIn w' a' n' (cutF x.fs) ∧ n' ≤ 20 ∧ Below wr.heap.size wr w' ∧ ∀ b, a' = some b → wr.heap.size ≤ b.block ∧ b.block < w'.heap.size :=
  cut13_new x.gr x.ch x.a x.ln x.cp x.any x.till x.fs wr (hx.2.2.2.1.below (Nat.le_refl _) hB) hx.1 hx.2.2.2.2.1 hx.2.2.2.2.2
end Go.Proofs.YtmajlldfiiokoaaGreatDoor
