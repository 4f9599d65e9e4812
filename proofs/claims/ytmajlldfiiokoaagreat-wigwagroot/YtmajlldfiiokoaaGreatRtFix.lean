/- slices.Compact at ints; route.Fix, Round. -/
import Derived.Test.YtmajlldfiiokoaaGreatJoinIdOwn
import Derived.Test.YtmajlldfiiokoaaGreatShelfB
import Derived.Test.YtmajlldfiiokoaaGreatJoinIdCat
namespace Go.Proofs.YtmajlldfiiokoaaGreat
open Go.ChangeShapes Go.WideShapes Go.ChangeAt Go.RowKit Go.Deep
set_option linter.unusedVariables false

theorem rt_compact_len {zs : List Int} : (Lib.compact zs).length ≤ zs.length := by
  unfold Lib.compact Lib.compactUpTo
  rw [List.length_map]
  exact Nat.le_trans (List.length_filter_le _ _) (by simp)
theorem rt_compact_mem {zs : List Int} : ∀ x ∈ Lib.compact zs, x ∈ zs := fun x hx => by
  unfold Lib.compact Lib.compactUpTo at hx
  obtain ⟨j, hj, rfl⟩ := List.mem_map.1 hx
  have hl : j < zs.length := by have := (List.mem_filter.1 hj).1; simpa using this
  have e : zs.toArray[j]! = zs[j] := by simp [hl]
  rw [e]
  exact List.getElem_mem _
theorem rt_below_cells {B b : Nat} (hb : B ≤ b) : ∀ (vs : List Value) (o : Nat) (w : World), Below B w (w.setCells b o vs)
  | [], _, w => Below.refl _ _
  | v :: r, o, w => by rw [World.setCells]; exact ((Below.refl B w).setCell (p := ⟨b, o, none⟩) hb v).trans (rt_below_cells hb r (o + 1) _)
theorem rt_size_cells {b : Nat} : ∀ (vs : List Value) (o : Nat) (w : World), (w.setCells b o vs).heap.size = w.heap.size
  | [], _, w => rfl
  | v :: r, o, w => by rw [World.setCells, rt_size_cells r (o + 1)]; simp [World.setCell]
/-- slices.Compact of a row of one's own. -/
theorem compact_gi (w wr : World) (a : Option Addr) (n c : Nat) (l : List Int) (h : Gi w wr (.slice a n c) n l) (hok : ∀ x ∈ l, i64 x) (hn : n ≤ 1000) :
    Calls Tryz.prog 42 #[.slice a n c] wr fun e w' => ∃ m, e = .returned (.slice a m c) ∧ InIn w' a m (Lib.compact l) ∧ (a = none → m = 0) ∧ m ≤ c ∧ c ≤ 9223372036854775807 ∧ Below w.heap.size w w' := by
  have hl : l.length = n := by have := h.row.1; simpa using this
  have hcp := own_caps h.row
  rcases h.row.2 with ⟨hv, h0⟩ | ⟨g, cap, cur, hv, hB, hg, hnc, _, hcs, _⟩
  · have hL : l = [] := List.eq_nil_of_length_eq_zero (by omega)
    subst hL
    subst h0
    refine (Tryz.slices_Compact_int_empty a c wr).mono ?_
    rintro e w' ⟨rfl, hw'⟩
    subst w'
    exact ⟨0, rfl, ⟨rfl, by omega, .inl rfl⟩, fun _ => rfl, by omega, hcp.2, h.bel⟩
  · have hcell := h.row.cells (g := g) (by rw [hv]; rfl)
    simp only [Value.slice.injEq] at hv
    obtain ⟨rfl, _, rfl⟩ := hv
    have hgl := lt_of_block hg
    have hc : ∀ i, i < l.length → wr.cell? ⟨g, 0 + i, none⟩ = some (.int .i64 (l.getD i 0)) := fun i hi => by
      have e := hcell i (cellI (l.getD i 0)) (by simp [hi])
      rw [Addr.add_lit] at e
      exact e
    have hf : ∀ j, j < n → wr.frozen? ⟨g, 0 + j, none⟩ = false := fun j _ => by simp [World.frozen?, hg]
    refine (Tryz.slices_Compact_int_cells g 0 n c l wr (by omega) (by omega) hnc hc hf).mono ?_
    rw [List.take_of_length_le (by omega)]
    rintro e w' ⟨rfl, q, rfl⟩
    have hcl := rt_compact_len (zs := l)
    refine ⟨(Lib.compact l).length, rfl, ⟨rfl, by omega, ?_⟩, (fun e => by cases e), by omega, hcp.2, ?_⟩
    · refine .inr ⟨g, 0, rfl, ?_, fun j hj => ⟨?_, fun i hi => ?_⟩⟩
      · rw [rt_size_cells]; exact hgl
      · rw [List.getD_eq_getElem?_getD, List.getElem?_eq_getElem hj]
        exact hok _ (rt_compact_mem _ (List.getElem_mem _))
      · obtain rfl : i = 0 := by omega
        have hin := World.cell?_setCells_in g ((Lib.compact l ++ List.replicate (n - (Lib.compact l).length) 0).map (Value.int .i64)) 0 (wr.drewN q)
          (fun k hk => by
            have hk' : k < l.length := by simp at hk; omega
            have e := hc k hk'
            have e' : (wr.drewN q).cell? ⟨g, 0 + k, none⟩ = wr.cell? ⟨g, 0 + k, none⟩ := rfl
            rw [e', e]; rfl) j (by simp; omega)
        have ea : (⟨g, 0 + j * 1 + 0, none⟩ : Addr) = ⟨g, 0 + j, none⟩ := by simp
        rw [ea, hin]
        simp [encI, hj]
    · have hb : Below w.heap.size w (wr.drewN q) := ⟨h.bel.os, h.bel.tape, h.bel.output, h.bel.size, h.bel.block⟩
      exact hb.trans (rt_below_cells hB _ _ _)

/-- Where a way ends; none: it is too long. -/
def Rg.endG (R : Rg) (G : Int → List Int) (x : Int) : Nat → Int → Option Int
  | 0, _ => none
  | j + 1, m => if R.nextTo G x m = m then some m else R.endG G x j (R.nextTo G x m)
theorem end_skip {R : Rg} {G : Int → List Int} {x n : Int} : ∀ i, i ≤ 65 → (∀ j, j < i → R.hopTo G x n (j + 1) ≠ R.hopTo G x n j) → R.endG G x 65 n = R.endG G x (65 - i) (R.hopTo G x n i) := by
  intro i
  induction i with
  | zero => intro _ _; rfl
  | succ i ih =>
    intro hi hne
    rw [ih (by omega) (fun j hj => hne j (by omega)), show 65 - i = (65 - (i + 1)) + 1 by omega]
    show (if R.hopTo G x n (i + 1) = R.hopTo G x n i then _ else _) = _
    rw [if_neg (hne i (by omega))]; rfl
theorem end_stop {R : Rg} {G : Int → List Int} {x n : Int} {k : Nat} (hk : k < 65) (h : R.stops G x n k) : R.endG G x 65 n = some (R.hopTo G x n k) := by
  rw [end_skip k (by omega) h.1, show 65 - k = (64 - k) + 1 by omega]
  show (if R.hopTo G x n (k + 1) = R.hopTo G x n k then _ else _) = _
  rw [if_pos h.2]
theorem end_none {R : Rg} {G : Int → List Int} {x n : Int} (h : ∀ k, k < 65 → R.hopTo G x n (k + 1) ≠ R.hopTo G x n k) : R.endG G x 65 n = none := by
  rw [end_skip 65 (by omega) h]; rfl
/-- The owners that a member finds for its first k places. -/
def Rg.finL (R : Rg) (G : Int → List Int) (n : Int) (k : Nat) : List Int := (List.range k).filterMap fun (j : Nat) => R.endG G (startN (R.idOf n) j) 65 n
theorem fin_some {R : Rg} {G : Int → List Int} {n e : Int} {k : Nat} (h : R.endG G (startN (R.idOf n) k) 65 n = some e) : R.finL G n (k + 1) = R.finL G n k ++ [e] := by
  simp [Rg.finL, List.range_succ, List.filterMap_append, h]
theorem fin_none {R : Rg} {G : Int → List Int} {n : Int} {k : Nat} (h : R.endG G (startN (R.idOf n) k) 65 n = none) : R.finL G n (k + 1) = R.finL G n k := by
  simp [Rg.finL, List.range_succ, List.filterMap_append, h]
theorem end_i64 {R : Rg} (h : Inv R) {G : Int → List Int} {x : Int} (hx : Plc x) : ∀ (j : Nat) (n e : Int), R.lives n = true → R.endG G x j n = some e → R.lives e = true := by
  intro j
  induction j with
  | zero => intro n e _ q; cases q
  | succ j ih =>
    intro n e hn q
    unfold Rg.endG at q
    split at q
    · cases q; exact hn
    · exact ih _ _ (next_spec h hx hn).1 q
theorem fin_i64 {R : Rg} (h : Inv R) {G : Int → List Int} {n : Int} (hn : R.lives n = true) (k : Nat) : ∀ y ∈ R.finL G n k, i64 y := fun y hy => by
  obtain ⟨j, _, e⟩ := List.mem_filterMap.1 hy
  have hs := start_rng (R.idOf n) j (h.u n)
  have := h.rng _ (end_i64 h hs 65 n y hn e)
  unfold i64; omega
/-- Fingers that one member has asked for. -/
def Rg.fixG (R : Rg) (G : Int → List Int) (n : Int) : Int → List Int := upd G n (Lib.compact (R.finL G n 64))

set_option maxRecDepth 100000 in
set_option maxHeartbeats 4000000 in
theorem fix_r (r gp gk f gm : Nat) (R : Rg) (G : Int → List Int) (n : Int) (w : World) (h : RingAt w r gp gk R) (hf : FgAt w f r gm G) (hi : Inv R) (hn : R.lives n = true) :
    Calls Tryz.prog 30 #[.pointer (some ⟨f, 0, none⟩), .int .i64 n] w fun e w' => e = .returned .nilIface ∧ FgAt w' f r gm (R.fixG G n) ∧ Kp w w' gm gm := by
  obtain ⟨i0, hif, hz0, hz1, hz2⟩ := info_of Tryz.infoInt
  have H : Hid (RingAt w r gp gk R ∧ FgAt w f r gm G ∧ Inv R ∧ R.lives n = true) := ⟨h, hf, hi, hn⟩
  have c0 := hf.c0
  have cl := hf.lt.1
  clear h hf hi hn
  go_enter Tryz.func30, Tryz.ntmps30
  go_wp2_with fail
  refine (lives_r r gp gk R n _ H.out.1).mono ?_
  rintro e w1 ⟨rfl, b1⟩
  rw [H.out.2.2.2]
  have H1 : Hid (Gi w w1 (.slice none 0 0) 0 (R.finL G n 0)) := ⟨World.ownsRow_nil w1 _ _ _, b1⟩
  clear b1 c0 cl
  go_wp2
  go_loopg [5, 17] 64 (fun kx ov s wr => ∃ (k m : Nat) (a : Option Addr) (c : Nat), s = .int .i64 k ∧ ov = .slice a m c ∧ m ≤ k ∧ k ≤ 64 ∧ kx = 64 - k ∧ Hid (Gi w wr (.slice a m c) m (R.finL G n k)))
  case atStart => exact ⟨0, 0, none, 0, rfl, rfl, Nat.le_refl _, by omega, rfl, H1⟩
  case round =>
    obtain ⟨k, m, a, c, rfl, rfl, hm, hk, rfl, HG⟩ := hrel
    clear H1
    have hfx := H.out.2.1.below HG.out.bel
    have c0 := hfx.c0
    have c1 := hfx.c1
    have cl := hfx.lt.1
    by_cases hlt : k < 64
    · have hkI : (k : Int) < 64 := by omega
      obtain ⟨st, hst⟩ : ∃ st, st = startN (R.idOf n) k := ⟨_, rfl⟩
      have HST : Hid (startN (R.idOf n) k = st ∧ Plc st) := ⟨hst.symm, by rw [hst]; exact start_rng _ _ (H.out.2.2.1.u n)⟩
      clear hst hfx
      go_wp2_with (first
        | (go_at_call 34; refine (id_r r gp gk R n _ (H.out.1.below HG.out.bel)).mono ?_; rintro e w' ⟨rfl, hw'⟩; subst w')
        | (go_at_call 56; refine (start_any _ _ _).mono ?_; rintro e w' ⟨rfl, hw'⟩; subst w'; rw [HST.out.1])
        | fail)
      refine (path_r r gp gk f gm R G n st _ (H.out.1.below HG.out.bel) (H.out.2.1.below HG.out.bel) H.out.2.2.1 HST.out.2 H.out.2.2.2).mono ?_
      rintro e w2 ⟨h2, b2⟩
      have H2 : Hid (Gi w w2 (.slice a m c) m (R.finL G n k)) := HG.out.below b2
      clear b2 c0 c1 cl HG
      rcases h2 with ⟨kk, pa, pc, hkk, hs, rfl, hin, _⟩ | ⟨hno, rfl⟩
      · obtain ⟨pb, po, rfl, hpl, _, hpc⟩ := hin.one (v := Value.int .i64) (fun _ => rfl) (i := kk) (by omega)
        rw [way_getD R G st n (by omega)] at hpc
        obtain ⟨y, hy⟩ : ∃ y, y = R.hopTo G st n kk := ⟨_, rfl⟩
        rw [← hy] at hpc
        have HF : Hid (R.finL G n (k + 1) = R.finL G n k ++ [y]) := fin_some (by rw [HST.out.1, hy]; exact end_stop hkk hs)
        clear hy hs hin
        have HA : Hid ((w2.alloc (.cells #[.int .i64 y] 3)).ownsRow w.heap.size 3 1 (.slice a m c) m ((R.finL G n k).map cellI)) := (H2.out.below (below_one _ _)).row
        have HSz : Hid (w.heap.size ≤ w2.heap.size) := H2.out.bel.size
        have hsub : IntKind.i64.wrap (((kk + 1 : Nat) : Int) - 1) = (kk : Int) := by simp [IntKind.wrap, IntKind.bits, IntKind.signed]; omega
        go_wp2_with (at_builtin; refine wpList_own_append _ rfl _ _ 37 37 rfl w.heap.size 3 i0 _ 8 Tryz.underlying37 hif hz0 hz1 hz2 rfl _ _ _ rfl HA.out _ 1 [cellI y] rfl (src_oneI w2 y) ?c3 ?c4 ?c5 ?_)
        case c3 => unfold maxLen; omega
        case c4 => omega
        case c5 => have := HSz.out; simp; omega
        intro v' w3 ha
        obtain ⟨a', c', rfl⟩ := ha.shape
        have H3 : Hid (Gi w w3 (.slice a' (m + 1) c') (m + 1) (R.finL G n (k + 1))) := by
          have := (H2.out.below (below_one _ _)).app ha
          rw [HF.out]; exact this
        clear ha HA HSz H2 hpc hpl
        go_wp2
        go_roundg (64 - (k + 1))
        case measure => omega
        case rel => exact ⟨k + 1, m + 1, a', c', by go_num, by simp, by omega, by omega, rfl, H3⟩
      · have HF : Hid (R.finL G n (k + 1) = R.finL G n k) := fin_none (by rw [HST.out.1]; exact end_none hno)
        clear hno
        go_wp2
        go_roundg (64 - (k + 1))
        case measure => omega
        case rel => exact ⟨k + 1, m, a, c, by go_num, rfl, by omega, by omega, rfl, by rw [HF.out]; exact H2.out⟩
    · obtain rfl : k = 64 := by omega
      clear hfx
      go_upto_region 11 with fail
      have HCP : Hid (∀ W, Below wr.heap.size wr W → Calls Tryz.prog 42 #[.slice a m c] W fun e w' => ∃ j w9, e = .returned (.slice a j c) ∧ (Instr.mapUpdate 70 (.map (some gm)) (.int .i64 n) (.slice a j c)).run Tryz.prog w' = .ok () w9 ∧ w'.cell? ⟨f, 1, none⟩ = some (.map (some gm)) ∧ f < w'.heap.size ∧ FgAt w9 f r gm (R.fixG G n) ∧ Kp w w9 gm gm) := fun W hW => by
        refine (compact_gi w W a m c (R.finL G n 64) (HG.out.below hW) (fin_i64 H.out.2.2.1 H.out.2.2.2 64) (by omega)).mono ?_
        rintro e w' ⟨j, he, h1, h2, h3, h4, h5⟩
        have hfb := H.out.2.1.below h5
        obtain ⟨w9, p1, p2, p3⟩ := hfb.put n h1 h2 h3 h4
        exact ⟨j, w9, he, p1, hfb.c1, hfb.lt.1, p2, (Kp.ofBelow h5).trans p3⟩
      go_region_with ((go_at_call 42; refine Calls.mono (HCP.out _ (by exact ⟨rfl, rfl, rfl, Nat.le_refl _, fun _ _ => rfl⟩)) ?_; rintro e wc ⟨j, w9, rfl, hput, d1, dl, hfg, hkp⟩))
      all_goals
        go_wp2
        go_ret
        exact ⟨rfl, hfg, hkp⟩
theorem fix_dead (r gp gk f gm : Nat) (R : Rg) (G : Int → List Int) (n : Int) (w : World) (h : RingAt w r gp gk R) (hf : FgAt w f r gm G) (hn : R.lives n = false) :
    Calls Tryz.prog 30 #[.pointer (some ⟨f, 0, none⟩), .int .i64 n] w fun e w' => e = .returned (.iface 55 (.int .i64 6)) ∧ Below w.heap.size w w' := by
  have H : Hid (RingAt w r gp gk R ∧ R.lives n = false) := ⟨h, hn⟩
  have c0 := hf.c0
  have cl := hf.lt.1
  clear h hf hn
  go_enter Tryz.func30, Tryz.ntmps30
  go_wp2_with (go_at_call 25; refine (lives_r r gp gk R n _ H.out.1).mono ?_; rintro e w1 ⟨rfl, b1⟩; rw [H.out.2])
  go_ret
  exact ⟨rfl, b1⟩
/-- Fingers that all have asked for. -/
def Rg.roundG (R : Rg) (G : Int → List Int) : Int → List Int := R.live.foldl R.fixG G

set_option maxRecDepth 100000 in
set_option maxHeartbeats 4000000 in
theorem fround_r (w wr : World) (r gp gk f gm : Nat) (R : Rg) (G : Int → List Int) (h : Rt w wr r gp gk f gm R G) :
    Calls Tryz.prog 12 #[.pointer (some ⟨f, 0, none⟩)] wr fun e w' => e = .returned (.tuple #[]) ∧ Rt w w' r gp gk f gm R (R.roundG G) := by
  have H : Hid (Rt w wr r gp gk f gm R G) := h
  have c0 := h.fg.c0
  have cl := h.fg.lt.1
  have hll : R.live.length ≤ 32 := liveTo_len R 32
  obtain ⟨n, hn⟩ : ∃ n, n = R.live.length := ⟨_, rfl⟩
  rw [← hn] at hll
  have HN : Hid (n = R.live.length) := hn
  clear h hn
  go_enter Tryz.func12, Tryz.ntmps12
  go_wp2_with fail
  refine (live_r r gp gk R _ H.out.rn.ring).mono ?_
  rintro e w1 ⟨la, lc, rfl, hla, _, b1⟩
  rw [← HN.out] at hla ⊢
  have H1 : Hid (Rt w w1 r gp gk f gm R G ∧ InIn w1 la n R.live) := ⟨H.out.below b1, hla⟩
  clear b1 hla c0 cl
  go_wp2
  go_loopg [10] n (fun kx s wx => ∃ i : Nat, s = .int .i64 i ∧ i ≤ n ∧ kx = n - i ∧ Hid (Rt w wx r gp gk f gm R ((R.live.take i).foldl R.fixG G) ∧ InIn wx la n R.live))
  case atStart => exact ⟨0, rfl, Nat.zero_le _, rfl, H1⟩
  case round =>
    obtain ⟨i, rfl, hi, rfl, HB⟩ := hrel
    clear H1
    by_cases hlt : i < n
    · have hiI : (0 : Int) ≤ (i : Int) ∧ (i : Int) < (n : Int) := by omega
      obtain ⟨lb, lo, rfl, hll2, _, hlc⟩ := HB.out.2.one (v := Value.int .i64) (fun _ => rfl) (i := i) hlt
      have hil : i < R.live.length := by have := HN.out; omega
      have hmem : R.live.getD i 0 ∈ R.live := by rw [List.getD_eq_getElem?_getD, List.getElem?_eq_getElem hil]; simp
      have htk : R.live.take (i + 1) = R.live.take i ++ [R.live.getD i 0] := by
        rw [List.take_add_one, List.getD_eq_getElem?_getD, List.getElem?_eq_getElem hil]; rfl
      obtain ⟨y, hy⟩ : ∃ y, y = R.live.getD i 0 := ⟨_, rfl⟩
      rw [← hy] at hlc hmem htk
      have HY : Hid (R.lives y = true ∧ R.live.take (i + 1) = R.live.take i ++ [y]) := ⟨((mem_live R _).1 hmem).2.2, htk⟩
      clear hy hmem htk hil
      go_wp2_with (go_at_call 30; refine (fix_r r gp gk f gm R _ y _ HB.out.1.rn.ring HB.out.1.fg HB.out.1.rn.inv HY.out.1).mono ?_; rintro e w2 ⟨rfl, h2, k2⟩)
      go_roundg (n - (i + 1))
      case measure => omega
      case rel =>
        obtain ⟨m, hm, _⟩ := HB.out.1.fg.map
        refine ⟨i + 1, by go_num, by omega, rfl, ⟨?_, InRow.kp HB.out.2 k2 hm hm⟩⟩
        rw [HY.out.2, List.foldl_append]
        exact HB.out.1.kg h2 k2
    · obtain rfl : i = n := by omega
      go_wp2
      go_end0
      refine ⟨rfl, ?_⟩
      have := HB.out.1
      rw [List.take_of_length_le (by have := HN.out; omega)] at this
      exact this
end Go.Proofs.YtmajlldfiiokoaaGreat
