/- rdv.Store: Gone, Put, Do. -/
import Derived.Test.YtmajlldfiiokoaaGreatDoorJoinRdAbs
import Derived.Test.YtmajlldfiiokoaaGreatDoorJoinTbAwake
import Derived.Test.YtmajlldfiiokoaaGreatDoorChAct
set_option linter.unnecessarySimpa false
namespace Go.Proofs.YtmajlldfiiokoaaGreatDoor
open Go.ChangeShapes Go.WideShapes Go.ChangeAt Go.RowKit Go.Deep
set_option linter.unusedVariables false

theorem InRow.at {w w' : World} {a : Option Addr} {len : Nat} {l : List Int} (h : InIn w a len l) (hz : w.heap.size ≤ w'.heap.size) (hb : ∀ b, a = some b → b.block < w.heap.size → w'.heap[b.block]? = w.heap[b.block]?) : InIn w' a len l := by
  refine ⟨h.1, h.2.1, ?_⟩
  rcases h.2.2 with h0 | ⟨b, o, ha, hlt, hc⟩
  · exact .inl h0
  · exact .inr ⟨b, o, ha, by omega, fun i hi => ⟨(hc i hi).1, fun j hj => (World.cell?_of_block (a := ⟨b, o + i * 1 + j, none⟩) (hb ⟨b, o, none⟩ ha hlt)).trans ((hc i hi).2 j hj)⟩⟩
theorem idIn_at {w w' : World} {a : Option Addr} {len : Nat} {l : List Int} (h : IdIn w a len l) (hz : w.heap.size ≤ w'.heap.size) (hb : ∀ b, a = some b → b.block < w.heap.size → w'.heap[b.block]? = w.heap[b.block]?) : IdIn w' a len l := by
  refine ⟨h.1, h.2.1, ?_⟩
  rcases h.2.2 with h0 | ⟨b, o, ha, hlt, hc⟩
  · exact .inl h0
  · exact .inr ⟨b, o, ha, by omega, fun i hi => ⟨(hc i hi).1, fun j hj => (World.cell?_of_block (a := ⟨b, o + i * 1 + j, none⟩) (hb ⟨b, o, none⟩ ha hlt)).trans ((hc i hi).2 j hj)⟩⟩
/-- A circle whose blocks are not among these. -/
structure CAo (w : World) (R : Rg) (C : List Int) (g c d n : Nat) (b : Option Addr) (O : Nat → Prop) : Prop where
  at' : CAt w R C g c d n b
  g : ¬ O g
  b : ∀ x, b = some x → ¬ O x.block
theorem CAo.fr {w w' : World} {R : Rg} {C : List Int} {g c d n : Nat} {b : Option Addr} {O O' : Nat → Prop} (h : CAo w R C g c d n b O) (f : Fr w w' O O') : CAo w' R C g c d n b O' := by
  have hgl : g < w.heap.size := by
    rcases h.at'.mem.2.2 with e | ⟨b, o, ha, hlt, _⟩
    · have := h.at'.n4; omega
    · cases ha; exact hlt
  have hbl : ∀ x, b = some x → x.block < w.heap.size := fun x hx => by
    rcases h.at'.ids.2.2 with e | ⟨b, o, ha, hlt, _⟩
    · have := h.at'.n4; omega
    · rw [ha] at hx; cases hx; exact hlt
  refine ⟨⟨h.at'.cir, h.at'.inv, h.at'.mem.at f.size (fun x hx hl => ?_), h.at'.c1, h.at'.c2, idIn_at h.at'.ids f.size (fun x hx hl => f.block _ hl (h.b x hx)), h.at'.n4, h.at'.n32⟩, f.off hgl h.g, fun x hx => f.off (hbl x hx) (h.b x hx)⟩
  cases hx
  exact f.block _ hl h.g
theorem CAo.below {w w' : World} {R : Rg} {C : List Int} {g c d n : Nat} {b : Option Addr} {O : Nat → Prop} (h : CAo w R C g c d n b O) (hb : Below w.heap.size w w') : CAo w' R C g c d n b O := h.fr (Fr.ofBelow hb O)
theorem CAt.keep {w : World} {R : Rg} {C : List Int} {g c d n : Nat} {b : Option Addr} (h : CAt w R C g c d n b) (s : ByteArray) (hs : s.size ≤ 200) :
    Calls Tryz.prog 29 #[.agg #[.slice (some ⟨g, 0, none⟩) n c, .slice b n d], .string s] w fun e w' => (∃ a c3, e = .returned (.slice a 3 c3) ∧ InIn w' a 3 (keepF R C s) ∧ ∀ x, a = some x → w.heap.size ≤ x.block) ∧ Below w.heap.size w w' := by
  obtain ⟨k, hk, hkn⟩ := h.own s
  rw [keepF_of hk]
  exact keepers_new h.inv h.cir g c d n k b s w h.mem h.c1 h.c2 h.ids h.n4 h.n32 hk hkn hs
theorem CAt.keep_nd {w : World} {R : Rg} {C : List Int} {g c d n : Nat} {b : Option Addr} (h : CAt w R C g c d n b) (s : ByteArray) : (keepF R C s).Nodup ∧ (keepF R C s).length = 3 := by
  obtain ⟨k, hk, hkn⟩ := h.own s
  have := h.len
  have := h.n4
  rw [keepF_of hk]
  exact ⟨keepL_nodup h.nodup (by omega), keepL_len (by omega) (by omega)⟩

set_option maxHeartbeats 2000000 in
/-- A member's table is lost. -/
theorem stm_gone {B : Nat} {w0 : World} {s g : Nat} {O : Nat → Prop} {A : Int → List Core} (n : Int) (w : World) (h : Stm B w0 w s g O A) :
    Calls Tryz.prog 38 #[.pointer (some ⟨s, 0, none⟩), .int .i64 n] w fun e w' => e = .returned (.tuple #[]) ∧ Stm B w0 w' s g O (upd A n []) ∧ Fr w w' O O := by
  obtain ⟨R, V, X, h⟩ := h.ex
  obtain ⟨w3, e3, h3, k3⟩ := h.st.gone n 0 3
  have sc := h.st.scell
  have sl := cell_block sc
  have H3 : Hid (Stm B w0 w3 s g O (upd A n []) ∧ Fr w w3 O O) := by
    have hg := h.glt.1
    refine ⟨⟨_, _, _, h3, fun k hk => ?_, fun k => ?_, fun b hb => ?_, fun b hb => ⟨(h.rng b hb).1, Nat.lt_of_lt_of_le (h.rng b hb).2 k3.size⟩⟩, ⟨k3.os, k3.tape, k3.output, k3.size, fun b hb ho => ?_, fun b hb => .inl hb⟩⟩
    · by_cases e : k = n
      · simp only [upd, if_pos e]
      · simp only [upd, if_neg e] at hk ⊢; exact h.no k hk
    · by_cases e : k = n
      · simp only [upd, if_pos e]; rfl
      · simp only [upd, if_neg e]; exact h.val k
    · rcases hb with e | e | ⟨k, q, hk, e⟩
      · exact h.own b (.inl e)
      · exact h.own b (.inr (.inl e))
      · by_cases e2 : k = n
        · subst e2; simp [upd] at hk
        · simp only [upd, if_neg e2] at hk
          exact h.own b (.inr (.inr ⟨k, q, hk, e⟩))
    · have : b ≠ g := fun e => ho (by rw [e]; exact hg)
      exact k3.block b hb this this
  clear h h3 k3
  go_enter Tryz.func38, Tryz.ntmps38
  go_wp2
  go_end0
  exact ⟨rfl, H3.out.1, H3.out.2⟩

theorem putsA_snoc (A : Int → List Core) (K : List Int) (n : Int) (x : Core) : putsA A (K ++ [n]) x = upd (putsA A K x) n (putC (putsA A K x n) x) := by
  unfold putsA; rw [List.foldl_append]; rfl
theorem putL_snoc (A : Int → List Core) (n : Int) (L : List Core) (x : Core) : putL A n (L ++ [x]) = upd (putL A n L) n (putC (putL A n L n) x) := by
  unfold putL; rw [List.foldl_append]; rfl
theorem movesA_snoc (A : Int → List Core) (L : List (ByteArray × Int × Int)) (m : ByteArray × Int × Int) : movesA A (L ++ [m]) = moveA (movesA A L) m := by
  unfold movesA; rw [List.foldl_append]; rfl
theorem take_snocK (l : List Int) {j : Nat} (h : j < l.length) : l.take (j + 1) = l.take j ++ [l.getD j 0] := by
  rw [List.take_add_one, List.getD_eq_getElem?_getD, List.getElem?_eq_getElem h]; rfl
/-- All the entries' keys are among these, and rise. -/
structure KyA (A : Int → List Core) (Ks : List (ByteArray × Int)) : Prop where
  asc : AscA A
  keys : KeysIn A Ks
  le : Ks.length < 400
theorem KyA.room {A : Int → List Core} {Ks : List (ByteArray × Int)} (h : KyA A Ks) (n : Int) : (A n).length < 400 := Nat.lt_of_le_of_lt (h.asc.len h.keys n) h.le
theorem KyA.put {A : Int → List Core} {Ks : List (ByteArray × Int)} (h : KyA A Ks) (n : Int) (x : Core) (hx : x.key ∈ Ks) : KyA (upd A n (putC (A n) x)) Ks :=
  ⟨fun k => by
    by_cases e : k = n
    · subst e; simp only [upd, if_true]; exact asc_putC (h.asc k) x
    · simp only [upd, if_neg e]; exact h.asc k, h.keys.put h.asc n x hx, h.le⟩
theorem KyA.putL {Ks : List (ByteArray × Int)} (n : Int) : ∀ (L : List Core) {A : Int → List Core}, KyA A Ks → (∀ x ∈ L, x.key ∈ Ks) → KyA (Go.Proofs.YtmajlldfiiokoaaGreatDoor.putL A n L) Ks
  | [], A, h, _ => h
  | x :: L, A, h, hL => KyA.putL n L (h.put n x (hL x (by simp))) (fun y hy => hL y (by simp [hy]))
theorem KyA.puts {Ks : List (ByteArray × Int)} (x : Core) (hx : x.key ∈ Ks) : ∀ (K : List Int) {A : Int → List Core}, KyA A Ks → KyA (putsA A K x) Ks
  | [], A, h => h
  | n :: K, A, h => KyA.puts x hx K (h.put n x hx)
theorem KyA.move {A : Int → List Core} {Ks : List (ByteArray × Int)} (h : KyA A Ks) (m : ByteArray × Int × Int) : KyA (moveA A m) Ks :=
  h.putL m.2.2 _ (fun x hx => h.keys _ x (List.mem_filter.1 hx).1)
theorem KyA.moves {Ks : List (ByteArray × Int)} : ∀ (L : List (ByteArray × Int × Int)) {A : Int → List Core}, KyA A Ks → KyA (movesA A L) Ks
  | [], A, h => h
  | m :: L, A, h => KyA.moves L (h.move m)

set_option maxRecDepth 100000 in
set_option maxHeartbeats 4000000 in
/-- A wish, at the keepers of its group. -/
theorem stm_puts {B : Nat} {w0 : World} {s g : Nat} {O : Nat → Prop} {A : Int → List Core} {Ks : List (ByteArray × Int)} (Rr : Rg) (C : List Int) (g1 c1 d1 n1 : Nat) (b1 : Option Addr) (gr : ByteArray) (c : Int) (fa : Option Addr) (fl fc : Nat) (any : Bool) (till : Int) (fs : List ByteArray) (w : World) (h : Stm B w0 w s g O A) (h1 : CAo w Rr C g1 c1 d1 n1 b1 O) (hs : gr.size ≤ 200) (hf : StrIn w fa fl fs) (hfl : fl ≤ 100000) (hfo : ∀ b, fa = some b → ¬ O b.block) (hfb : ∀ b, fa = some b → b.block < w.heap.size) (hK : KyA A Ks) (hk : (gr, c) ∈ Ks) :
    Calls Tryz.prog 40 #[.pointer (some ⟨s, 0, none⟩), .agg #[.slice (some ⟨g1, 0, none⟩) n1 c1, .slice b1 n1 d1], .agg #[.string gr, .int .i64 c, .slice fa fl fc, .bool any, .int .i64 till]] w fun e w' =>
      e = .returned .nilIface ∧ ∃ O', Stm B w0 w' s g O' (putsA A (keepF Rr C gr) ⟨gr, c, any, till, fs⟩) ∧ Fr w w' O O' := by
  obtain ⟨q, hq⟩ : ∃ q, q = w.heap.size := ⟨_, rfl⟩
  obtain ⟨W, hW⟩ : ∃ W, W = (w.alloc (.cells #[.slice (some ⟨g1, 0, none⟩) n1 c1, .slice b1 n1 d1] 50)).alloc (.cells #[.string gr, .int .i64 c, .slice fa fl fc, .bool any, .int .i64 till] 89) := ⟨_, rfl⟩
  obtain ⟨W1, hW1⟩ : ∃ W1, W1 = w.alloc (.cells #[.slice (some ⟨g1, 0, none⟩) n1 c1, .slice b1 n1 d1] 50) := ⟨_, rfl⟩
  have s1 : W1.heap.size = q + 1 := by rw [hW1, hq]; simp
  have e1 : Below w.heap.size w W1 := by rw [hW1]; exact below_one _ _
  have e2 : Below W1.heap.size W1 W := by rw [hW, ← hW1]; exact below_one _ _
  have bW : Below w.heap.size w W := e1.trans (e2.mono e1.size)
  have x0 : W.cell? ⟨q, 0, none⟩ = some (.slice (some ⟨g1, 0, none⟩) n1 c1) := cell_grown (by rw [hW1, hq]; exact World.cell?_alloc_new ..) e2
  have x1 : W.cell? ⟨q, 1, none⟩ = some (.slice b1 n1 d1) := cell_grown (by rw [hW1, hq]; simp) e2
  have hb : W.heap[q + 1]? = some (.cells #[.string gr, .int .i64 c, .slice fa fl fc, .bool any, .int .i64 till] 89 (0, 0)) := by rw [hW, ← hW1, ← s1]; exact heap_alloc_new _ _
  have y0 : W.cell? ⟨q + 1, 0, none⟩ = some (.string gr) := by simp [World.cell?, hb]
  have xl := cell_block x0
  have yl := lt_blk hb
  have hqo : ¬ O (q + 1) := fun e => by have := (h.rng _ e).2; omega
  have HBX : Hid (W.heap[q + 1]? = some (.cells #[.string gr, .int .i64 c, .slice fa fl fc, .bool any, .int .i64 till] 89 (0, 0)) ∧ ¬ O (q + 1)) := ⟨hb, hqo⟩
  have HS : Hid (Stm B w0 W s g O A ∧ Below w.heap.size w W) := ⟨h.below bW, bW⟩
  have HKC : Hid _ := (h1.at'.below bW).keep gr hs
  have HND := h1.at'.keep_nd gr
  have HF : Hid (StrIn W fa fl fs ∧ fl ≤ 100000 ∧ (∀ b, fa = some b → ¬ O b.block) ∧ ∀ b, fa = some b → b.block < W.heap.size) := ⟨strin_below hf bW, hfl, hfo, fun b hb => Nat.lt_of_lt_of_le (hfb b hb) bW.size⟩
  obtain ⟨K, hKe⟩ : ∃ K, K = keepF Rr C gr := ⟨_, rfl⟩
  rw [← hKe] at HKC HND ⊢
  have HKl : Hid (K.length = 3) := HND.2
  have HKY : Hid (KyA A Ks ∧ (gr, c) ∈ Ks) := ⟨hK, hk⟩
  clear h h1 hs hf hfl hfo hfb e1 e2 bW hW1 s1 hb HND hK hk hqo hKe
  go_enter Tryz.func40, Tryz.ntmps40
  go_upto_region 1 with fail
  rw [← hW]
  try rw [← hq]
  clear hW hq
  go_wp2_with fail
  refine Calls.mono HKC.out ?_
  clear HKC
  rintro e w5 ⟨⟨ka, kc, rfl, hin, hka⟩, b5⟩
  have hz5 := b5.size
  have hB5 : w5.heap[q + 1]? = some (.cells #[.string gr, .int .i64 c, .slice fa fl fc, .bool any, .int .i64 till] 89 (0, 0)) := (b5.block _ yl).trans HBX.out.1
  have H5 : Hid (InIn w5 ka 3 K ∧ Stm B w0 w5 s g O A ∧ Below w.heap.size w w5 ∧ w5.heap[q + 1]? = some (.cells #[.string gr, .int .i64 c, .slice fa fl fc, .bool any, .int .i64 till] 89 (0, 0)) ∧ StrIn w5 fa fl fs ∧ (∀ x, ka = some x → ¬ O x.block)) := by
    refine ⟨hin, HS.out.1.below b5, HS.out.2.trans (b5.mono HS.out.2.size), hB5, strin_below HF.out.1 b5, fun x hx ho => by have := hka x hx; have := (HS.out.1.rng _ ho).2; omega⟩
  have HZ : Hid (W.heap.size ≤ w5.heap.size) := hz5
  clear hin hka b5 HS x0 x1 xl y0 yl hz5 hB5
  go_wp2
  go_loopg [21] 3 (fun kx sx wr => ∃ j : Nat, sx = .int .i64 j ∧ j ≤ 3 ∧ kx = 3 - j ∧ Hid (∃ O', Stm B w0 wr s g O' (putsA A (K.take j) ⟨gr, c, any, till, fs⟩) ∧ Fr w5 wr O O'))
  case atStart => exact ⟨0, rfl, by omega, rfl, ⟨O, H5.out.2.1, Fr.refl _ _⟩⟩
  case round =>
    obtain ⟨j, rfl, hj, rfl, HB⟩ := hrel
    obtain ⟨O', a1, a2⟩ := HB.out
    have HI : Hid (Stm B w0 wr s g O' (putsA A (K.take j) ⟨gr, c, any, till, fs⟩) ∧ Fr w5 wr O O') := ⟨a1, a2⟩
    clear HB a1 a2
    by_cases hlt : j < 3
    · have hltI : (j : Int) < 3 := by omega
      have hin : InIn wr ka 3 K := H5.out.1.at HI.out.2.size (fun b hb hl => HI.out.2.block _ hl (H5.out.2.2.2.2.2 b hb))
      obtain ⟨mb, mo, hmb, hml, _, hmc⟩ := hin.one (v := Value.int .i64) (fun _ => rfl) (i := j) hlt
      subst hmb
      have hsn := take_snocK K (j := j) (by rw [HKl.out]; exact hlt)
      obtain ⟨x, hx⟩ : ∃ x, x = K.getD j 0 := ⟨_, rfl⟩
      rw [← hx] at hmc hsn
      have HSN : Hid (K.take (j + 1) = K.take j ++ [x]) := hsn
      have hbr : wr.heap[q + 1]? = some (.cells #[.string gr, .int .i64 c, .slice fa fl fc, .bool any, .int .i64 till] 89 (0, 0)) := (HI.out.2.block _ (lt_blk H5.out.2.2.2.1) HBX.out.2).trans H5.out.2.2.2.1
      have kc0 : wr.cell? ⟨q + 1, 0, none⟩ = some (.string gr) := by simp [World.cell?, hbr]
      have kc1 : wr.cell? ⟨q + 1, 1, none⟩ = some (.int .i64 c) := by simp [World.cell?, hbr]
      have kc2 : wr.cell? ⟨q + 1, 2, none⟩ = some (.slice fa fl fc) := by simp [World.cell?, hbr]
      have kc3 : wr.cell? ⟨q + 1, 3, none⟩ = some (.bool any) := by simp [World.cell?, hbr]
      have kc4 : wr.cell? ⟨q + 1, 4, none⟩ = some (.int .i64 till) := by simp [World.cell?, hbr]
      have kl := lt_blk hbr
      have hky := HKY.out.1.puts ⟨gr, c, any, till, fs⟩ HKY.out.2 (K.take j)
      have HPT : Hid _ := stm_put x gr c fa fl fc any till fs wr HI.out.1 (H5.out.2.2.2.2.1.at HI.out.2.size (fun b hb => HI.out.2.block _ (Nat.lt_of_lt_of_le (HF.out.2.2.2 b hb) HZ.out) (HF.out.2.2.1 b hb))) HF.out.2.1 (fun b hb => HI.out.2.off (Nat.lt_of_lt_of_le (HF.out.2.2.2 b hb) HZ.out) (HF.out.2.2.1 b hb)) (hky.room x)
      clear hin hx hsn hbr hky
      go_wp2_with fail
      refine Calls.mono HPT.out ?_
      clear HPT hmc hml kc0 kc1 kc2 kc3 kc4 kl
      rintro e w6 ⟨rfl, O6, hst, hfr⟩
      rw [← putsA_snoc, ← HSN.out] at hst
      have H6 : Hid (∃ O', Stm B w0 w6 s g O' (putsA A (K.take (j + 1)) ⟨gr, c, any, till, fs⟩) ∧ Fr w5 w6 O O') := ⟨O6, hst, HI.out.2.trans hfr⟩
      clear hst hfr HI
      go_wp2
      go_roundg (3 - (j + 1))
      case measure => omega
      case rel => exact ⟨j + 1, by go_num, by omega, rfl, H6⟩
    · obtain rfl : j = 3 := by omega
      go_wp2
      go_ret
      refine ⟨rfl, O', ?_, (Fr.ofBelow H5.out.2.2.1 O).trans HI.out.2⟩
      have := HI.out.1
      rw [List.take_of_length_le (by rw [HKl.out]; exact Nat.le_refl _)] at this
      exact this

def mv0 : ByteArray × Int × Int := (ByteArray.empty, 0, 0)
theorem mv_cells {w : World} {B : Nat} {a : Option Addr} {n c : Nat} {L : List (ByteArray × Int × Int)} (h : w.ownsRow B 69 3 (.slice a n c) n (L.flatMap encM)) (hL : L.length = n) {i : Nat} (hi : i < n) :
    ∃ b, a = some ⟨b, 0, none⟩ ∧ b < w.heap.size ∧ (Value.slice a n c).ownBlock = some b ∧ w.cell? ⟨b, i * 3, none⟩ = some (.string (L.getD i mv0).1) ∧ w.cell? ⟨b, i * 3 + 1, none⟩ = some (.int .i64 (L.getD i mv0).2.1) ∧ w.cell? ⟨b, i * 3 + 2, none⟩ = some (.int .i64 (L.getD i mv0).2.2) := by
  rcases h.2 with ⟨_, h0⟩ | ⟨g, cap, cur, hv, _, hg, _⟩
  · omega
  · have hc := h.cells (g := g) (by rw [hv]; rfl)
    have hown : (Value.slice a n c).ownBlock = some g := by rw [hv]; rfl
    simp only [Value.slice.injEq] at hv
    refine ⟨g, hv.1, lt_blk hg, hown, ?_⟩
    have hx : ∀ j, j < 3 → (L.flatMap encM)[i * 3 + j]? = (encM (L.getD i mv0))[j]? := fun j hj => flat_get encM 3 (fun _ => rfl) mv0 L i j (by omega) hj
    have e0 := hc (i * 3 + 0) (.string (L.getD i mv0).1) (by rw [hx 0 (by omega)]; rfl)
    have e1 := hc (i * 3 + 1) (.int .i64 (L.getD i mv0).2.1) (by rw [hx 1 (by omega)]; rfl)
    have e2 := hc (i * 3 + 2) (.int .i64 (L.getD i mv0).2.2) (by rw [hx 2 (by omega)]; rfl)
    rw [Addr.add_lit] at e0 e1 e2
    simp only [Nat.zero_add, Nat.add_zero] at e0 e1 e2
    exact ⟨e0, e1, e2⟩
theorem take_snocM (l : List (ByteArray × Int × Int)) {j : Nat} (h : j < l.length) : l.take (j + 1) = l.take j ++ [l.getD j mv0] := by
  rw [List.take_add_one, List.getD_eq_getElem?_getD, List.getElem?_eq_getElem h]; rfl

set_option maxRecDepth 100000 in
set_option maxHeartbeats 4000000 in
/-- Moves, one by one. -/
theorem stm_do {B Bm : Nat} {w0 : World} {s g : Nat} {O : Nat → Prop} {A : Int → List Core} {Ks : List (ByteArray × Int)} (la : Option Addr) (n lc : Nat) (L : List (ByteArray × Int × Int)) (w : World) (h : Stm B w0 w s g O A) (hrow : w.ownsRow Bm 69 3 (.slice la n lc) n (L.flatMap encM)) (hL : L.length = n) (hn : n ≤ 100000) (hro : ∀ b, (Value.slice la n lc).ownBlock = some b → ¬ O b) (hK : KyA A Ks) :
    Calls Tryz.prog 41 #[.pointer (some ⟨s, 0, none⟩), .slice la n lc] w fun e w' =>
      e = .returned .nilIface ∧ ∃ O', Stm B w0 w' s g O' (movesA A L) ∧ Fr w w' O O' := by
  have HS : Hid (Stm B w0 w s g O A ∧ w.ownsRow Bm 69 3 (.slice la n lc) n (L.flatMap encM) ∧ L.length = n ∧ (∀ b, (Value.slice la n lc).ownBlock = some b → ¬ O b) ∧ KyA A Ks) := ⟨h, hrow, hL, hro, hK⟩
  clear h hrow hL hro hK
  go_enter Tryz.func41, Tryz.ntmps41
  go_wp2
  go_loopg [12] n (fun kx sx wr => ∃ j : Nat, sx = .int .i64 j ∧ j ≤ n ∧ kx = n - j ∧ Hid (∃ O', Stm B w0 wr s g O' (movesA A (L.take j)) ∧ Fr w wr O O'))
  case atStart => exact ⟨0, rfl, by omega, rfl, ⟨O, HS.out.1, Fr.refl _ _⟩⟩
  case round =>
    obtain ⟨j, rfl, hj, rfl, HB⟩ := hrel
    obtain ⟨O', a1, a2⟩ := HB.out
    have HI : Hid (Stm B w0 wr s g O' (movesA A (L.take j)) ∧ Fr w wr O O') := ⟨a1, a2⟩
    clear HB a1 a2
    by_cases hlt : j < n
    · have hltI : (j : Int) < (n : Int) := by omega
      have hrow2 : wr.ownsRow Bm 69 3 (.slice la n lc) n (L.flatMap encM) := row_atJ HS.out.2.1 (fun b hb => HI.out.2.block b (HS.out.2.1.lt b hb).2 (HS.out.2.2.2.1 b hb))
      obtain ⟨b, hb, hbl, _, c0, c1, c2⟩ := mv_cells hrow2 HS.out.2.2.1 hlt
      subst hb
      have hsn := take_snocM L (j := j) (by rw [HS.out.2.2.1]; exact hlt)
      obtain ⟨m, hm⟩ : ∃ m, m = L.getD j mv0 := ⟨_, rfl⟩
      rw [← hm] at c0 c1 c2 hsn
      obtain ⟨gr, fr, tw⟩ := m
      simp only at c0 c1 c2
      have HSN : Hid (movesA A (L.take (j + 1)) = moveA (movesA A (L.take j)) (gr, fr, tw)) := by show _ = _; rw [hsn, movesA_snoc]
      obtain ⟨A1, hA1⟩ : ∃ A1, A1 = movesA A (L.take j) := ⟨_, rfl⟩
      have hky1 : KyA A1 Ks := by rw [hA1]; exact HS.out.2.2.2.2.moves _
      have HI2 : Hid (Stm B w0 wr s g O' A1 ∧ Fr w wr O O' ∧ KyA A1 Ks) := ⟨by rw [hA1]; exact HI.out.1, HI.out.2, hky1⟩
      rw [← hA1] at HSN
      clear hrow2 hm hsn HI hky1 hA1
      obtain ⟨W, hW⟩ : ∃ W, W = wr.alloc (.cells #[.string gr, .int .i64 fr, .int .i64 tw] 69) := ⟨_, rfl⟩
      obtain ⟨q, hq⟩ : ∃ q, q = wr.heap.size := ⟨_, rfl⟩
      have bW : Below wr.heap.size wr W := by rw [hW]; exact below_one _ _
      have hbq : W.heap[q]? = some (.cells #[.string gr, .int .i64 fr, .int .i64 tw] 69 (0, 0)) := by rw [hW, hq]; exact heap_alloc_new _ _
      have q0 : W.cell? ⟨q, 0, none⟩ = some (.string gr) := by simp [World.cell?, hbq]
      have q1 : W.cell? ⟨q, 1, none⟩ = some (.int .i64 fr) := by simp [World.cell?, hbq]
      have q2 : W.cell? ⟨q, 2, none⟩ = some (.int .i64 tw) := by simp [World.cell?, hbq]
      have ql := lt_blk hbq
      have hqO : ¬ O' q := fun e => by have := (HI2.out.1.rng _ e).2; omega
      have HQ : Hid (¬ O' q ∧ Below wr.heap.size wr W ∧ W.heap[q]? = some (.cells #[.string gr, .int .i64 fr, .int .i64 tw] 69 (0, 0))) := ⟨hqO, bW, hbq⟩
      have HWI : Hid _ := stm_wishes fr gr W (HI2.out.1.below bW)
      clear bW hbq hqO
      go_upto_region 4 with fail
      rw [← hW]
      try rw [← hq]
      clear hW hq c0 c1 c2 hbl
      go_wp2_with fail
      refine Calls.mono HWI.out ?_
      clear HWI
      rintro e w2 ⟨v2, Y, rfl, hE, hY⟩
      obtain ⟨a2, c2, hv⟩ := hE.er.shape
      subst hv
      obtain ⟨m, hm⟩ : ∃ m, m = Y.length := ⟨_, rfl⟩
      rw [← hm] at hE ⊢
      have hml : m ≤ 400 := by
        have h1 := congrArg List.length hY
        rw [List.length_map, ← hm] at h1
        have h2 := List.length_filter_le (ofC gr) (A1 fr)
        have h3 := HI2.out.2.2.room fr
        omega
      have hq2 : w2.heap[q]? = some (.cells #[.string gr, .int .i64 fr, .int .i64 tw] 69 (0, 0)) := (hE.bel.block q ql).trans HQ.out.2.2
      have HE : Hid (ERowN W w2 (.slice a2 m c2) Y ∧ m = Y.length ∧ Y.map Ep.core = (A1 fr).filter (ofC gr) ∧ W.heap.size ≤ w2.heap.size ∧ (∀ b, O' b → b < W.heap.size)) := ⟨hE, hm, hY, hE.bel.size, fun b hb => Nat.lt_of_lt_of_le (HI2.out.1.rng b hb).2 HQ.out.2.1.size⟩
      have H2 : Hid (Stm B w0 w2 s g O' A1 ∧ Fr w w2 O O' ∧ w2.heap[q]? = some (.cells #[.string gr, .int .i64 fr, .int .i64 tw] 69 (0, 0))) := ⟨(HI2.out.1.below HQ.out.2.1).below hE.bel, (HI2.out.2.1.trans (Fr.ofBelow HQ.out.2.1 _)).trans (Fr.ofBelow hE.bel _), hq2⟩
      have HK2 : Hid (KyA A1 Ks) := HI2.out.2.2
      clear hm hY hE hq2 q0 q1 q2 ql HI2
      go_wp2
      go_loopg [23] m (fun kx sx wz => ∃ i : Nat, sx = .int .i64 i ∧ i ≤ m ∧ kx = m - i ∧ Hid (∃ O2, Stm B w0 wz s g O2 (putL A1 tw ((Y.map Ep.core).take i)) ∧ Fr w2 wz O' O2))
      case atStart => exact ⟨0, rfl, by omega, rfl, ⟨O', by rw [List.take_zero]; exact H2.out.1, Fr.refl _ _⟩⟩
      case round =>
        rename World => wz
        obtain ⟨i, rfl, hi, rfl, HB⟩ := hrel
        obtain ⟨O2, a1, a2'⟩ := HB.out
        have HI : Hid (Stm B w0 wz s g O2 (putL A1 tw ((Y.map Ep.core).take i)) ∧ Fr w2 wz O' O2) := ⟨a1, a2'⟩
        clear HB a1 a2'
        by_cases hlt2 : i < m
        · have hlt2I : (i : Int) < (m : Int) := by omega
          obtain ⟨b, o, ha, hbl, e0, e1, e2, e3, e4⟩ := ERow.read (w' := wz) HE.out.1.er HE.out.2.1 (by omega) (fun b h1 h2 h3 => HI.out.2.block b h2 (fun e => by have := HE.out.2.2.2.2 b e; omega)) hlt2
          subst ha
          have hbl2 : b < wz.heap.size := Nat.lt_of_lt_of_le hbl HI.out.2.size
          have hym : Y.getD i ep0 ∈ Y := getD_memL ep0 Y i (by rw [← HE.out.2.1]; exact hlt2)
          have hfil := HE.out.1.er.fil _ hym
          have hfr := HE.out.1.fr _ hym
          have htk : (Y.map Ep.core).take (i + 1) = (Y.map Ep.core).take i ++ [(Y.getD i ep0).core] := by
            rw [← List.map_take, ← List.map_take, take_snocE Y (i := i) (by rw [← HE.out.2.1]; exact hlt2), List.map_append]; rfl
          have hkey : (Y.getD i ep0).core.key ∈ Ks := by
            have : (Y.getD i ep0).core ∈ (A1 fr).filter (ofC gr) := by rw [← HE.out.2.2.1]; exact List.mem_map_of_mem hym
            exact HK2.out.keys _ _ (List.mem_filter.1 this).1
          have hkall : ∀ x ∈ (Y.map Ep.core).take i, x.key ∈ Ks := fun x hx => by
            have : x ∈ (A1 fr).filter (ofC gr) := by rw [← HE.out.2.2.1]; exact List.mem_of_mem_take hx
            exact HK2.out.keys _ _ (List.mem_filter.1 this).1
          obtain ⟨y, hy⟩ : ∃ y, y = Y.getD i ep0 := ⟨_, rfl⟩
          rw [← hy] at e0 e1 e2 e3 e4 hfil hfr htk hkey
          obtain ⟨yg, yc, ya, yl, yp, yn, yt, yf⟩ := y
          simp only at e0 e1 e2 e3 e4 hfil hfr
          obtain ⟨W5, hW5⟩ : ∃ W5, W5 = wz.alloc (.cells #[.string yg, .int .i64 yc, .slice ya yl yp, .bool yn, .int .i64 yt] 89) := ⟨_, rfl⟩
          obtain ⟨z5, hz5⟩ : ∃ z5, z5 = wz.heap.size := ⟨_, rfl⟩
          have b5 : Below wz.heap.size wz W5 := by rw [hW5]; exact below_one _ _
          have hb5 : W5.heap[z5]? = some (.cells #[.string yg, .int .i64 yc, .slice ya yl yp, .bool yn, .int .i64 yt] 89 (0, 0)) := by rw [hW5, hz5]; exact heap_alloc_new _ _
          have d0 : W5.cell? ⟨z5, 0, none⟩ = some (.string yg) := by simp [World.cell?, hb5]
          have d1 : W5.cell? ⟨z5, 1, none⟩ = some (.int .i64 yc) := by simp [World.cell?, hb5]
          have d2 : W5.cell? ⟨z5, 2, none⟩ = some (.slice ya yl yp) := by simp [World.cell?, hb5]
          have d3 : W5.cell? ⟨z5, 3, none⟩ = some (.bool yn) := by simp [World.cell?, hb5]
          have d4 : W5.cell? ⟨z5, 4, none⟩ = some (.int .i64 yt) := by simp [World.cell?, hb5]
          have dl := lt_blk hb5
          have hqz : W5.heap[q]? = some (.cells #[.string gr, .int .i64 fr, .int .i64 tw] 69 (0, 0)) := (b5.block q (Nat.lt_of_lt_of_le (lt_blk H2.out.2.2) HI.out.2.size)).trans ((HI.out.2.block q (lt_blk H2.out.2.2) HQ.out.1).trans H2.out.2.2)
          have t2 : W5.cell? ⟨q, 2, none⟩ = some (.int .i64 tw) := by simp [World.cell?, hqz]
          have tl := lt_blk hqz
          have HPT : Hid _ := stm_put tw yg yc ya yl yp yn yt yf W5 (HI.out.1.below b5) (strin_below (hfil.1.at HI.out.2.size (fun b hb => HI.out.2.block _ (hfil.2.2 b hb).1 (fun e => by have := HE.out.2.2.2.2 _ e; have := hfr b hb; omega))) b5) hfil.2.1 (fun b hb => HI.out.2.off (hfil.2.2 b hb).1 (fun e => by have := HE.out.2.2.2.2 _ e; have := hfr b hb; omega)) ((HK2.out.putL tw _ hkall).room tw)
          have HTK : Hid (putL A1 tw ((Y.map Ep.core).take (i + 1)) = upd (putL A1 tw ((Y.map Ep.core).take i)) tw (putC (putL A1 tw ((Y.map Ep.core).take i) tw) ⟨yg, yc, yn, yt, yf⟩)) := by
            show _ = _
            rw [htk, putL_snoc]; rfl
          have HB5 : Hid (Below wz.heap.size wz W5) := b5
          clear hym hfil hfr htk hkey hkall hy b5 hb5 hqz
          go_upto_region 7 with fail
          rw [← hW5]
          try rw [← hz5]
          clear hW5 hz5 e0 e1 e2 e3 e4 hbl hbl2
          go_wp2_with fail
          refine Calls.mono HPT.out ?_
          clear HPT d0 d1 d2 d3 d4 dl t2 tl
          rintro e w6 ⟨rfl, O6, hst, hfr⟩
          rw [← HTK.out] at hst
          have H6 : Hid (∃ O2, Stm B w0 w6 s g O2 (putL A1 tw ((Y.map Ep.core).take (i + 1))) ∧ Fr w2 w6 O' O2) := ⟨O6, hst, (HI.out.2.trans (Fr.ofBelow HB5.out _)).trans hfr⟩
          clear hst hfr HI HTK HB5
          go_wp2
          go_roundg (m - (i + 1))
          case measure => omega
          case rel => exact ⟨i + 1, by go_num, by omega, rfl, H6⟩
        · obtain rfl : i = m := by omega
          have H6 : Hid (∃ O2, Stm B w0 wz s g O2 (movesA A (L.take (j + 1))) ∧ Fr w wz O O2) := by
            refine ⟨O2, ?_, H2.out.2.1.trans HI.out.2⟩
            have := HI.out.1
            rw [List.take_of_length_le (by rw [List.length_map, ← HE.out.2.1]; exact Nat.le_refl _), HE.out.2.2.1] at this
            rw [HSN.out]
            exact this
          clear HI H2 HE
          go_wp2
          go_roundg (n - (j + 1))
          case measure => omega
          case rel => exact ⟨j + 1, by go_num, by omega, rfl, H6⟩
    · obtain rfl : j = n := by omega
      go_wp2
      go_ret
      refine ⟨rfl, O', ?_, HI.out.2⟩
      have := HI.out.1
      rw [List.take_of_length_le (by rw [HS.out.2.2.1]; exact Nat.le_refl _)] at this
      exact this
end Go.Proofs.YtmajlldfiiokoaaGreatDoor

/- rdv.Store.Trim: going over the tables. -/
namespace Go.Proofs.YtmajlldfiiokoaaGreatDoor
open Go.ChangeShapes Go.WideShapes Go.ChangeAt Go.RowKit Go.Deep
open Go.ChangeMaps (setBlock)
set_option linter.unusedVariables false

/-- A block of no concern is written. -/
theorem StI.other {B : Nat} {w0 w w' : World} {s g : Nat} {R : Int → Option Nat} {V : Int → Value} {X : Int → List Ep} (h : StI B w0 w s g R V X) {it : Nat} (hB : B ≤ it) (ho : w'.os = w.os ∧ w'.tape = w.tape ∧ w'.output = w.output) (hz : w'.heap.size = w.heap.size) (hb : ∀ b, b ≠ it → w'.heap[b]? = w.heap[b]?) (h1 : it ≠ s) (h2 : it ≠ g) (h3 : ∀ n r, R n = some r → r ≠ it ∧ (V n).ownBlock ≠ some it ∧ ∀ x ∈ X n, ∀ b, x.a = some b → b.block ≠ it) : StI B w0 w' s g R V X := by
  obtain ⟨m, hm, hl⟩ := h.mp
  refine ⟨h.bel.trans ⟨ho.1, ho.2.1, ho.2.2, Nat.le_of_eq hz.symm, fun b hb' => hb b (by omega)⟩, ⟨h.lo.1, h.lo.2.1, h.lo.2.2.1, by rw [hz]; exact h.lo.2.2.2⟩, (hb s (Ne.symm h1)).trans h.box, ⟨m, hm.of_block (hb g (Ne.symm h2)), hl⟩, fun n r hr => ?_, h.clr, h.sep, h.fs⟩
  obtain ⟨q1, q2, q3⟩ := h3 n r hr
  exact (h.tab n r hr).at (Nat.le_of_eq hz.symm) (hb r q1) (fun b hb' => hb b (fun e => q2 (by rw [← e]; exact hb'))) (fun x hx b hb' => hb _ (q3 x hx b hb'))

/-- What is left when the keys of D were trimmed. -/
def trimX (Rr : Rg) (C : List Int) (X : Int → List Ep) (D : List Int) : Int → List Ep := fun n => if n ∈ D then (X n).filter (fun x => decide (n ∈ keepF Rr C x.gr)) else X n
/-- What is left of one member's when these names were looked at. -/
def trimN (Rr : Rg) (C : List Int) (k : Int) (N : List ByteArray) (x : Ep) : Bool := !(hasS N x.gr && !decide (k ∈ keepF Rr C x.gr))
theorem hasS_snoc (N : List ByteArray) (s g : ByteArray) : hasS (N ++ [s]) g = (hasS N g || decide (g = s)) := by
  rw [Bool.eq_iff_iff, hasS_iff, Bool.or_eq_true, hasS_iff, decide_eq_true_iff]
  simp
theorem trimN_nil (Rr : Rg) (C : List Int) (k : Int) (L : List Ep) : L.filter (trimN Rr C k []) = L := by
  rw [List.filter_eq_self]
  intro x _
  simp [trimN, hasS]
theorem trimN_skip (Rr : Rg) (C : List Int) (k : Int) (N : List ByteArray) (s : ByteArray) (L : List Ep) (h : k ∈ keepF Rr C s) : L.filter (trimN Rr C k (N ++ [s])) = L.filter (trimN Rr C k N) := by
  apply List.filter_congr
  intro x _
  unfold trimN
  rw [hasS_snoc]
  by_cases e : x.gr = s
  · have h1 : decide (k ∈ keepF Rr C x.gr) = true := by rw [e]; simpa using h
    rw [h1]; simp
  · simp [e]
theorem trimN_drop (Rr : Rg) (C : List Int) (k : Int) (N : List ByteArray) (s : ByteArray) (L : List Ep) (h : k ∉ keepF Rr C s) : L.filter (trimN Rr C k (N ++ [s])) = (L.filter (trimN Rr C k N)).filter (fun x => !ofG s x) := by
  rw [List.filter_filter]
  apply List.filter_congr
  intro x _
  have e0 : ofG s x = decide (x.gr = s) := eqS _ _
  rw [e0]
  unfold trimN
  rw [hasS_snoc]
  by_cases e : x.gr = s
  · have h1 : decide (k ∈ keepF Rr C x.gr) = false := by rw [e]; simpa using h
    rw [h1]; simp [e]
  · simp [e]
theorem trimN_end (Rr : Rg) (C : List Int) (k : Int) (N : List ByteArray) (L : List Ep) (h : ∀ x ∈ L, x.gr ∈ N) : L.filter (trimN Rr C k N) = L.filter (fun x => decide (k ∈ keepF Rr C x.gr)) := by
  apply List.filter_congr
  intro x hx
  have h1 : hasS N x.gr = true := (hasS_iff _ _).2 (h x hx)
  simp [trimN, h1]
theorem trimX_snoc (Rr : Rg) (C : List Int) (X : Int → List Ep) (D : List Int) (k : Int) (hk : k ∉ D) : trimX Rr C X (D ++ [k]) = upd (trimX Rr C X D) k ((X k).filter (fun x => decide (k ∈ keepF Rr C x.gr))) := by
  funext n
  unfold trimX
  by_cases e : n = k
  · subst e; simp [upd]
  · simp only [upd, List.mem_append, List.mem_singleton, e, or_false, if_false]
theorem trimX_sub (Rr : Rg) (C : List Int) (X : Int → List Ep) (D : List Int) (n : Int) : ∀ x ∈ trimX Rr C X D n, x ∈ X n := fun x hx => by
  unfold trimX at hx
  split at hx
  · exact (List.mem_filter.1 hx).1
  · exact hx
theorem upd_upd {α : Type} (f : Int → α) (n : Int) (a b : α) : upd (upd f n a) n b = upd f n b := by
  funext k; simp only [upd]; split <;> rfl
theorem upd_same {α : Type} (f : Int → α) (n : Int) : upd f n (f n) = f := by
  funext k; simp only [upd]; split
  · rename_i e; rw [e]
  · rfl
/-- The store, while it is gone over: those of D are done. -/
structure TrS (B : Nat) (w0 w wr : World) (s g it : Nat) (K : Nat → Prop) (wk : World) (m : List (Int × Value)) (R : Int → Option Nat) (O : Nat → Prop) (D : List Int) (Xr : Int → List Ep) : Prop where
  iter : ItK kvI wr g it m D
  dn : D.Nodup
  dm : ∀ k ∈ D, k ∈ m.map (·.1)
  kp : ∀ b, K b → b ≠ it ∧ b < wr.heap.size ∧ wr.heap[b]? = wk.heap[b]?
  ex : ∃ O' V A, StmR B w0 wr s g O' R V Xr A ∧ Fr w wr O O' ∧ ¬ O' it ∧ ∀ b, K b → ¬ O' b
theorem TrS.lt {B : Nat} {w0 w wr : World} {s g it : Nat} {K : Nat → Prop} {wk : World} {m : List (Int × Value)} {R : Int → Option Nat} {Xr : Int → List Ep} {O : Nat → Prop} {D : List Int} (h : TrS B w0 w wr s g it K wk m R O D Xr) {k : Int} (hm : k ∈ m.map (·.1)) (hk : k ∉ D) : D.length < m.length := by
  have h2 := nodup_le (D ++ [k]) (m.map (·.1)) (List.nodup_append.2 ⟨h.dn, by simp, fun a ha b hb e => by simp at hb; subst hb; subst e; exact hk ha⟩) (fun x hx => by
    rcases List.mem_append.1 hx with q | q
    · exact h.dm x q
    · simp at q; subst q; exact hm)
  simp at h2
  omega
theorem TrS.below {B : Nat} {w0 w wr w' : World} {s g it : Nat} {K : Nat → Prop} {wk : World} {m : List (Int × Value)} {R : Int → Option Nat} {Xr : Int → List Ep} {O : Nat → Prop} {D : List Int} (h : TrS B w0 w wr s g it K wk m R O D Xr) (hb : Below wr.heap.size wr w') : TrS B w0 w w' s g it K wk m R O D Xr := by
  obtain ⟨O', V, A, h1, h2, h3, h4⟩ := h.ex
  exact ⟨h.iter.of_blocks (hb.block _ h.iter.mp.lt) (hb.block _ h.iter.lt), h.dn, h.dm, fun b hk => ⟨(h.kp b hk).1, Nat.lt_of_lt_of_le (h.kp b hk).2.1 hb.size, (hb.block _ (h.kp b hk).2.1).trans (h.kp b hk).2.2⟩, O', V, A, h1.below hb, h2.trans (Fr.ofBelow hb _), h3, h4⟩
/-- The table of one is written. -/
theorem TrS.upd {B : Nat} {w0 w wr w' : World} {s g it : Nat} {K : Nat → Prop} {wk : World} {m : List (Int × Value)} {R : Int → Option Nat} {Xr : Int → List Ep} {O : Nat → Prop} {D : List Int} {O' : Nat → Prop} {V : Int → Value} {A : Int → List Core} (h : TrS B w0 w wr s g it K wk m R O D Xr) (h1 : StmR B w0 wr s g O' R V Xr A) (h2 : Fr w wr O O') (h3 : ¬ O' it) (h4 : ∀ b, K b → ¬ O' b) {n : Int} {r : Nat} {v' : Value} {X' : List Ep} (hr : R n = some r) (hK : KT wr w' r (V n) v') (hT : Tb w' B r v' X') (hX : ∀ x ∈ X', x ∈ Xr n) : TrS B w0 w w' s g it K wk m R O D (Go.Proofs.YtmajlldfiiokoaaGreatDoor.upd Xr n X') := by
  have hu := h1.upd hr hK hT (fun x hx => .inl (hX x hx))
  have hcl := h1.st.clr n r hr
  have hit : it ≠ r ∧ (V n).ownBlock ≠ some it := ⟨fun e => h3 (by rw [e]; exact h1.own r (.inr (.inr ⟨n, r, hr, .inl rfl⟩))), fun e => h3 (h1.own it (.inr (.inr ⟨n, r, hr, .inr e⟩)))⟩
  have hqt : ∀ b, K b → b ≠ r ∧ (V n).ownBlock ≠ some b := fun b hk => ⟨fun e => h4 b hk (by rw [e]; exact h1.own r (.inr (.inr ⟨n, r, hr, .inl rfl⟩))), fun e => h4 b hk (h1.own b (.inr (.inr ⟨n, r, hr, .inr e⟩)))⟩
  exact ⟨h.iter.of_blocks (hK.block g h.iter.mp.lt (Ne.symm hcl.2.1) hcl.2.2.2) (hK.block it h.iter.lt hit.1 hit.2), h.dn, h.dm, fun b hk => ⟨(h.kp b hk).1, Nat.lt_of_lt_of_le (h.kp b hk).2.1 hK.size, (hK.block b (h.kp b hk).2.1 (hqt b hk).1 (hqt b hk).2).trans (h.kp b hk).2.2⟩, _, _, _, hu.1, h2.trans hu.2, fun e => by
    rcases e with e | e
    · exact h3 e
    · rcases hK.own it e with q | q
      · exact hit.2 q
      · have := h.iter.lt; omega, fun b hk e => by
    rcases e with e | e
    · exact h4 b hk e
    · rcases hK.own b e with z | z
      · exact (hqt b hk).2 z
      · have := (h.kp b hk).2.1; omega⟩
/-- The next one. -/
theorem TrS.next {B : Nat} {w0 w wr : World} {s g it : Nat} {K : Nat → Prop} {wk : World} {m : List (Int × Value)} {R : Int → Option Nat} {Xr : Int → List Ep} {O : Nat → Prop} {D : List Int} (h : TrS B w0 w wr s g it K wk m R O D Xr) (hB : B ≤ it) (hw : w.heap.size ≤ it) (hl : ∀ n, lookK m n = (R n).map (fun r => Value.pointer (some ⟨r, 0, none⟩))) (hx : ∀ n, ∀ x ∈ Xr n, ∀ b, x.a = some b → b.block ≠ it) :
    ((∀ k ∈ m.map (·.1), k ∈ D) ∧ ∀ ty, (Instr.next (.pointer (some ⟨it, 0, none⟩)) false ty).run Tryz.prog wr = .ok (.tuple #[.bool false]) wr) ∨
    ∃ k r w5, R k = some r ∧ k ∈ m.map (·.1) ∧ k ∉ D ∧ (∀ ty, (Instr.next (.pointer (some ⟨it, 0, none⟩)) false ty).run Tryz.prog wr = .ok (.tuple #[.bool true, .int .i64 k, .pointer (some ⟨r, 0, none⟩)]) w5) ∧
      (Instr.entry (.pointer (some ⟨it, 0, none⟩))).run Tryz.prog w5 = .ok (.tuple #[.int .i64 k, .pointer (some ⟨r, 0, none⟩)]) w5 ∧ TrS B w0 w w5 s g it K wk m R O (D ++ [k]) Xr := by
  obtain ⟨O', V, A, h1, h2, h3, h4⟩ := h.ex
  rcases h.iter.next (P := Tryz.prog) with ⟨hall, hrun⟩ | ⟨k, x, w5, hkm, hkD, hrun, hit5, hent, w5', o5, hw5', hw5⟩
  · refine .inl ⟨fun k hk => ?_, hrun⟩
    obtain ⟨p, hp, rfl⟩ := List.mem_map.1 hk
    exact hall p hp
  · have hlk := lookK_mem h.iter.nodup hkm
    rw [hl] at hlk
    cases hr : R k with
    | none => rw [hr] at hlk; cases hlk
    | some r =>
      rw [hr] at hlk
      simp only [Option.map_some, Option.some.injEq] at hlk
      subst hlk
      have hkk : k ∈ m.map (·.1) := List.mem_map.2 ⟨_, hkm, rfl⟩
      have hos : w5.os = wr.os ∧ w5.tape = wr.tape ∧ w5.output = wr.output := by
        rw [hw5]
        rcases hw5' with rfl | rfl <;> exact ⟨rfl, rfl, rfl⟩
      have hsz : w5.heap.size = wr.heap.size := by rw [hw5, setB_size]; rcases hw5' with rfl | rfl <;> rfl
      have hbk : ∀ b, b ≠ it → w5.heap[b]? = wr.heap[b]? := fun b hb => by
        rw [hw5, setB_other hb]
        rcases hw5' with rfl | rfl <;> rfl
      have e1 : it ≠ s := fun e => h3 (by rw [e]; exact h1.own s (.inl rfl))
      have e2 : it ≠ g := fun e => h3 (by rw [e]; exact h1.own g (.inr (.inl rfl)))
      have hst := h1.st.other hB hos hsz hbk e1 e2 (fun n p hp => ⟨fun e => h3 (by rw [← e]; exact h1.own p (.inr (.inr ⟨n, p, hp, .inl rfl⟩))), fun e => h3 (h1.own it (.inr (.inr ⟨n, p, hp, .inr e⟩))), fun x hx' b hb => hx n x hx' b hb⟩)
      refine .inr ⟨k, r, w5, hr, hkk, hkD, hrun, hent, hit5, List.nodup_append.2 ⟨h.dn, by simp, fun a ha b hb e => by simp at hb; subst hb; subst e; exact hkD ha⟩, fun x hx => ?_, fun b hk => ⟨(h.kp b hk).1, by rw [hsz]; exact (h.kp b hk).2.1, (hbk b (h.kp b hk).1).trans (h.kp b hk).2.2⟩, O', V, A, ⟨hst, h1.no, h1.val, h1.own, fun b hb => ⟨(h1.rng b hb).1, by rw [hsz]; exact (h1.rng b hb).2⟩⟩, ⟨hos.1.trans h2.os, hos.2.1.trans h2.tape, hos.2.2.trans h2.output, by rw [hsz]; exact h2.size, fun b hb ho => (hbk b (by omega)).trans (h2.block b hb ho), h2.own⟩, h3, h4⟩
      · rcases List.mem_append.1 hx with q | q
        · exact h.dm x q
        · simp at q; subst q; exact hkk

set_option maxRecDepth 100000 in
set_option maxHeartbeats 4000000 in
/-- Each member forgets the groups that it doesn't keep. -/
theorem stm_trim {B : Nat} {w0 : World} {s g : Nat} {O : Nat → Prop} {A : Int → List Core} (Rr : Rg) (C : List Int) (g1 c1 d1 n1 : Nat) (b1 : Option Addr) (w : World) (h : Stm B w0 w s g O A) (h1 : CAo w Rr C g1 c1 d1 n1 b1 O) (hsz : ∀ n, ∀ z ∈ A n, z.gr.size ≤ 200) :
    Calls Tryz.prog 42 #[.pointer (some ⟨s, 0, none⟩), .agg #[.slice (some ⟨g1, 0, none⟩) n1 c1, .slice b1 n1 d1]] w fun e w' =>
      e = .returned (.tuple #[]) ∧ ∃ O', Stm B w0 w' s g O' (trimA Rr C A) ∧ Fr w w' O O' := by
  obtain ⟨R, V, X, h⟩ := h.ex
  obtain ⟨m, hm, hl⟩ := h.st.mp
  obtain ⟨q, hq⟩ : ∃ q, q = w.heap.size := ⟨_, rfl⟩
  obtain ⟨W, hW⟩ : ∃ W, W = w.alloc (.cells #[.slice (some ⟨g1, 0, none⟩) n1 c1, .slice b1 n1 d1] 50) := ⟨_, rfl⟩
  have bW : Below w.heap.size w W := by rw [hW]; exact below_one _ _
  have hsW : W.heap.size = q + 1 := by rw [hW, hq]; simp
  have hbq : W.heap[q]? = some (.cells #[.slice (some ⟨g1, 0, none⟩) n1 c1, .slice b1 n1 d1] 50 (0, 0)) := by rw [hW, hq]; exact heap_alloc_new _ _
  obtain ⟨o, hrun, hit⟩ := (hm.of_block (bW.block g hm.lt)).start (P := Tryz.prog) Tryz.underlying149
  obtain ⟨it, hite⟩ : ∃ it, it = W.heap.size := ⟨_, rfl⟩
  obtain ⟨W4, hW4⟩ : ∃ W4, W4 = W.alloc o := ⟨_, rfl⟩
  rw [← hW4, ← hite] at hrun hit
  have b4 : Below W.heap.size W W4 := by rw [hW4]; exact below_one _ _
  have b04 : Below w.heap.size w W4 := bW.trans (b4.mono bW.size)
  have hS := h.below bW
  have sc := hS.st.scell
  have sl := cell_block sc
  have HW : Hid (w.heap.size ≤ it ∧ B ≤ it ∧ q < it ∧ ¬ O q ∧ w.heap.size = q ∧ it < W4.heap.size) := ⟨by have := bW.size; omega, by have := bW.size; have := h.st.lo.2.2.2; omega, by omega, fun e => by have := (h.rng _ e).2; omega, hq.symm, hit.lt⟩
  have HL : Hid ((∀ n, lookK m n = (R n).map (fun r => Value.pointer (some ⟨r, 0, none⟩))) ∧ (∀ n, ∀ x ∈ X n, ∀ b, x.a = some b → b.block < w.heap.size) ∧ (∀ n, ∀ x ∈ X n, x.gr.size ≤ 200) ∧ (∀ n, A n = (X n).map Ep.core) ∧ (∀ n, R n = none → X n = [])) := by
    refine ⟨hl, fun n x hx b hb => ?_, fun n x hx => ?_, h.val, h.no⟩
    · cases hr : R n with
      | none => rw [h.no n hr] at hx; cases hx
      | some r => exact (((h.st.tab n r hr).fil x hx).cl b hb).1
    · have := hsz n x.core (by rw [h.val n]; exact List.mem_map_of_mem hx)
      exact this
  have HOB : Hid (W4.heap[q]? = some (.cells #[.slice (some ⟨g1, 0, none⟩) n1 c1, .slice b1 n1 d1] 50 (0, 0))) := (b4.block _ (by omega)).trans hbq
  have H4 : Hid (TrS B w0 w W4 s g it (fun b => b = q) W4 m R O [] (trimX Rr C X [])) := by
    refine ⟨hit, List.nodup_nil, (fun k hk => by cases hk), (fun b hk => ?_), O, V, A, ?_, (Fr.ofBelow b04 O), (fun e => by have := (h.rng _ e).2; have := bW.size; omega), (fun b hk e => ?_)⟩
    · subst hk; exact ⟨by omega, Nat.lt_of_lt_of_le (lt_blk hbq) b4.size, rfl⟩
    rotate_left
    · subst hk; have := (h.rng _ e).2; omega
    have e : trimX Rr C X [] = X := by funext n; simp [trimX]
    rw [e]
    exact h.below b04
  have HC : Hid (CAo w Rr C g1 c1 d1 n1 b1 O) := h1
  obtain ⟨ml, hml⟩ : ∃ ml, ml = m.length := ⟨_, rfl⟩
  have HML : Hid (ml = m.length) := hml
  clear hm hl hsz bW hsW hbq hit b4 b04 hS h h1 hml
  go_enter Tryz.func42, Tryz.ntmps42
  go_upto_region 1 with fail
  rw [← hW]
  try rw [← hq]
  clear hW hq hW4 hite
  go_wp2
  clear hrun sc sl
  go_loopg [] ml (fun kx wr => Hid (∃ D, kx = ml - D.length ∧ TrS B w0 w wr s g it (fun b => b = q) W4 m R O D (trimX Rr C X D)))
  case atStart => exact ⟨[], rfl, H4.out⟩
  case round =>
    have HB := hrel
    clear hrel
    clear H4
    obtain ⟨D, hkx, hd⟩ := HB.out
    have HKX : Hid (_ = ml - D.length) := hkx
    have HD : Hid (TrS B w0 w wr s g it (fun b => b = q) W4 m R O D (trimX Rr C X D)) := hd
    clear HB hkx hd
    rcases HD.out.next HW.out.2.1 HW.out.1 HL.out.1 (fun n x hx b hb => by have := HL.out.2.1 n x (trimX_sub Rr C X D n x hx) b hb; have := HW.out.1; omega) with ⟨hall, hrun⟩ | ⟨k, r, w5, hr, hkm, hkD, hrun, hent, hmid⟩
    · have HF : Hid (∃ O', Stm B w0 wr s g O' (trimA Rr C A) ∧ Fr w wr O O') := by
        obtain ⟨O', V', A', h1, h2, _⟩ := HD.out.ex
        refine ⟨O', ⟨R, V', _, h1.st, h1.no, fun n => ?_, h1.own, h1.rng⟩, h2⟩
        show (A n).filter (fun z => decide (n ∈ keepF Rr C z.gr)) = _
        rw [HL.out.2.2.2.1 n, ← filter_core (fun z => decide (n ∈ keepF Rr C z.gr))]
        unfold trimX
        by_cases hn : n ∈ D
        · rw [if_pos hn]; rfl
        · rw [if_neg hn]
          have : R n = none := by
            cases hr : R n with
            | none => rfl
            | some r =>
              exfalso
              have hlk := HL.out.1 n
              rw [hr] at hlk
              exact hn (hall n (List.mem_map.2 ⟨_, lookK_some hlk, rfl⟩))
          rw [HL.out.2.2.2.2 n this]; rfl
      clear hall
      go_wp2
      go_end0
      exact ⟨rfl, HF.out⟩
    · have HM : Hid (TrS B w0 w w5 s g it (fun b => b = q) W4 m R O (D ++ [k]) (trimX Rr C X D) ∧ R k = some r ∧ D.length < ml ∧ k ∉ D) := ⟨hmid, hr, by rw [HML.out]; exact HD.out.lt hkm hkD, hkD⟩
      clear hmid hr hkm hkD HD
      obtain ⟨vk, hvk⟩ : ∃ vk, ∃ O' A', StmR B w0 w5 s g O' R vk (trimX Rr C X D) A' := by
        obtain ⟨O', V', A', h1, _⟩ := HM.out.1.ex
        exact ⟨V', O', A', h1⟩
      have HG : Hid (Calls Tryz.prog 84 #[.pointer (some ⟨r, 0, none⟩)] w5 fun e w' => (∃ a c, e = .returned (.slice a (onceS ((trimX Rr C X D k).map Ep.gr)).length c) ∧ StrIn w' a (onceS ((trimX Rr C X D k).map Ep.gr)).length (onceS ((trimX Rr C X D k).map Ep.gr)) ∧ ∀ b, a = some b → w5.heap.size ≤ b.block) ∧ Below w5.heap.size w5 w') := by
        obtain ⟨O', A', h1⟩ := hvk
        exact groups_any B r (vk k) (trimX Rr C X D k) w5 (h1.st.tab k r HM.out.2.1)
      clear hvk
      go_wp2_with fail
      refine Calls.mono HG.out ?_
      clear HG hrun hent
      rintro e w6 ⟨⟨na, nc, rfl, hns, hna⟩, b6⟩
      obtain ⟨N, hN⟩ : ∃ N, N = onceS ((trimX Rr C X D k).map Ep.gr) := ⟨_, rfl⟩
      rw [← hN] at hns ⊢
      obtain ⟨nn, hnn⟩ : ∃ nn, nn = N.length := ⟨_, rfl⟩
      rw [← hnn] at hns ⊢
      have hXk : trimX Rr C X D k = X k := by unfold trimX; rw [if_neg HM.out.2.2.2]
      have HN : Hid (nn = N.length ∧ nn ≤ 100000 ∧ (∀ x ∈ X k, x.gr ∈ N) ∧ (∀ s ∈ N, s.size ≤ 200) ∧ StrIn w6 na nn N ∧ w6.heap[q]? = W4.heap[q]?) := by
        refine ⟨hnn, ?_, fun x hx => ?_, fun s hs => ?_, hns, ?_⟩
        · have h1 := onceS_len ((trimX Rr C X D k).map Ep.gr)
          obtain ⟨O', V', A', h2, _⟩ := HM.out.1.ex
          have h3 := (h2.st.tab k r HM.out.2.1).le
          rw [← hN, ← hnn, List.length_map] at h1
          omega
        · rw [hN, onceS_iff, hXk]; exact List.mem_map_of_mem hx
        · rw [hN, onceS_iff, hXk] at hs
          obtain ⟨x, hx, rfl⟩ := List.mem_map.1 hs
          exact HL.out.2.2.1 k x hx
        · exact (b6.block q (HM.out.1.kp q rfl).2.1).trans (HM.out.1.kp q rfl).2.2
      have H6 : Hid (TrS B w0 w w6 s g it (fun b => b = q ∨ (0 < nn ∧ ∃ a, na = some a ∧ b = a.block)) w6 m R O (D ++ [k]) (upd (trimX Rr C X D) k ((X k).filter (trimN Rr C k [])))) := by
        have e : upd (trimX Rr C X D) k ((X k).filter (trimN Rr C k [])) = trimX Rr C X D := by
          rw [trimN_nil, ← hXk, upd_same]
        show TrS _ _ _ _ _ _ _ _ _ _ _ _ _ _
        rw [e]
        obtain ⟨O', V', A', h1, h2, h3, h4⟩ := HM.out.1.ex
        refine ⟨HM.out.1.iter.of_blocks (b6.block _ HM.out.1.iter.mp.lt) (b6.block _ HM.out.1.iter.lt), HM.out.1.dn, HM.out.1.dm, fun b hb => ?_, O', V', A', h1.below b6, h2.trans (Fr.ofBelow b6 _), h3, fun b hb => ?_⟩
        · rcases hb with e | ⟨h0, a, ha, e⟩
          · rw [e]; exact ⟨(HM.out.1.kp q rfl).1, Nat.lt_of_lt_of_le (HM.out.1.kp q rfl).2.1 b6.size, rfl⟩
          · have z1 := hna a ha
            have z2 := HM.out.1.iter.lt
            obtain ⟨tb, tof, hta, htl, _⟩ := hns.2.resolve_left (by omega)
            rw [ha] at hta
            cases hta
            rw [e]
            exact ⟨by show tb ≠ it; have : w5.heap.size ≤ tb := z1; omega, htl, rfl⟩
        · rcases hb with e | ⟨h0, a, ha, e⟩
          · rw [e]; exact h4 q rfl
          · intro ho
            have z1 := hna a ha
            have := (h1.rng _ ho).2
            omega
      clear hnn hN hns hna hXk b6
      go_wp2
      go_loopg [21] nn (fun kz sv wz => ∃ j : Nat, sv = .int .i64 j ∧ j ≤ nn ∧ kz = nn - j ∧ Hid (TrS B w0 w wz s g it (fun b => b = q ∨ (0 < nn ∧ ∃ a, na = some a ∧ b = a.block)) w6 m R O (D ++ [k]) (upd (trimX Rr C X D) k ((X k).filter (trimN Rr C k (N.take j))))))
      case atStart => exact ⟨0, rfl, Nat.zero_le _, rfl, H6.out⟩
      case round =>
        rename World => wz
        obtain ⟨j, rfl, hj, rfl, HI⟩ := hrel
        have hnb : nn ≤ 100000 := HN.out.2.1
        by_cases hlt : j < nn
        · have hltI : (j : Int) < (nn : Int) := by omega
          obtain ⟨tb, tof, hta, htl, htc⟩ := HN.out.2.2.2.2.1.2.resolve_left (by omega)
          subst hta
          have hkt := HI.out.kp tb (.inr ⟨by omega, _, rfl, rfl⟩)
          have htj : wz.cell? ⟨tb, tof + j, none⟩ = some (.string (N.getD j ByteArray.empty)) := (World.cell?_of_block (a := ⟨tb, tof + j, none⟩) hkt.2.2).trans (htc j hlt)
          have hkq := HI.out.kp q (.inl rfl)
          have hbq : wz.heap[q]? = some (.cells #[.slice (some ⟨g1, 0, none⟩) n1 c1, .slice b1 n1 d1] 50 (0, 0)) := hkq.2.2.trans (HN.out.2.2.2.2.2.trans HOB.out)
          have q0 : wz.cell? ⟨q, 0, none⟩ = some (.slice (some ⟨g1, 0, none⟩) n1 c1) := by simp [World.cell?, hbq]
          have q1 : wz.cell? ⟨q, 1, none⟩ = some (.slice b1 n1 d1) := by simp [World.cell?, hbq]
          have ql := lt_blk hbq
          have htl2 := hkt.2.1
          have hmem : N.getD j ByteArray.empty ∈ N := by rw [List.getD_eq_getElem?_getD, List.getElem?_eq_getElem (by rw [← HN.out.1]; exact hlt)]; simp
          have hsn : N.take (j + 1) = N.take j ++ [N.getD j ByteArray.empty] := by rw [List.take_add_one, List.getD_eq_getElem?_getD, List.getElem?_eq_getElem (by rw [← HN.out.1]; exact hlt)]; rfl
          obtain ⟨sn, hse⟩ : ∃ sn, sn = N.getD j ByteArray.empty := ⟨_, rfl⟩
          rw [← hse] at htj hmem hsn
          have HKC : Hid (Calls Tryz.prog 29 #[.agg #[.slice (some ⟨g1, 0, none⟩) n1 c1, .slice b1 n1 d1], .string sn] wz fun e w' => (∃ a c3, e = .returned (.slice a 3 c3) ∧ InIn w' a 3 (keepF Rr C sn) ∧ ∀ x, a = some x → wz.heap.size ≤ x.block) ∧ Below wz.heap.size wz w') := by
            obtain ⟨O', V', A', h1, h2, h3, h4⟩ := HI.out.ex
            exact (HC.out.fr h2).at'.keep sn (HN.out.2.2.2.1 sn hmem)
          have HSN : Hid (N.take (j + 1) = N.take j ++ [sn]) := hsn
          clear hkt hkq hbq hse hsn hmem htc
          go_wp2_with fail
          refine Calls.mono HKC.out ?_
          clear HKC htj q0 q1 ql htl htl2
          rintro e w8 ⟨⟨ka, kc, rfl, hin, _⟩, b8⟩
          have H8 : Hid (TrS B w0 w w8 s g it (fun b => b = q ∨ (0 < nn ∧ ∃ a, some (Addr.mk tb tof none) = some a ∧ b = a.block)) w6 m R O (D ++ [k]) (upd (trimX Rr C X D) k ((X k).filter (trimN Rr C k (N.take j)))) ∧ InIn w8 ka 3 (keepF Rr C sn)) := ⟨HI.out.below b8, hin⟩
          clear hin b8 HI
          by_cases hk : k ∈ keepF Rr C sn
          · have HD1 : Hid (decide (k ∈ keepF Rr C sn) = true) := by show decide _ = _; simpa using hk
            have H9 : Hid (TrS B w0 w w8 s g it (fun b => b = q ∨ (0 < nn ∧ ∃ a, some (Addr.mk tb tof none) = some a ∧ b = a.block)) w6 m R O (D ++ [k]) (upd (trimX Rr C X D) k ((X k).filter (trimN Rr C k (N.take (j + 1)))))) := by
              show TrS _ _ _ _ _ _ _ _ _ _ _ _ _ _
              rw [HSN.out, trimN_skip _ _ _ _ _ _ hk]; exact H8.out.1
            clear hk
            go_wp2_with fail
            refine (contains_i _ 3 kc (keepF Rr C sn) k w8 H8.out.2).mono ?_
            rintro e w' ⟨rfl, hw'⟩
            subst w'
            rw [HD1.out]
            clear H8
            go_wp2
            go_roundg (nn - (j + 1))
            case measure => omega
            case rel => exact ⟨j + 1, by go_num, by omega, rfl, H9⟩
          · have HD1 : Hid (decide (k ∈ keepF Rr C sn) = false) := by show decide _ = _; simpa using hk
            obtain ⟨vk, hvk⟩ : ∃ vk, ∃ O' A', StmR B w0 w8 s g O' R vk (upd (trimX Rr C X D) k ((X k).filter (trimN Rr C k (N.take j)))) A' ∧ Fr w w8 O O' ∧ ¬ O' it ∧ ∀ b, (b = q ∨ (0 < nn ∧ ∃ a, some (Addr.mk tb tof none) = some a ∧ b = a.block)) → ¬ O' b := by
              obtain ⟨O', V', A', h1⟩ := H8.out.1.ex
              exact ⟨V', O', A', h1⟩
            have HVK : Hid _ := hvk
            have HFG : Hid (Calls Tryz.prog 86 #[.pointer (some ⟨r, 0, none⟩), .string sn] w8 fun e w' => e = .returned (.tuple #[]) ∧ ∃ v2, Tb w' B r v2 (((X k).filter (trimN Rr C k (N.take j))).filter (fun x => !ofG sn x)) ∧ KT w8 w' r (vk k) v2) := by
              obtain ⟨O', A', h1, _⟩ := hvk
              exact forget_any B r (vk k) ((X k).filter (trimN Rr C k (N.take j))) sn w8 (by have := h1.st.tab k r HM.out.2.1; simpa only [upd, if_true] using this) h1.st.lo.2.2.2
            have HTD : Hid ((X k).filter (trimN Rr C k (N.take (j + 1))) = ((X k).filter (trimN Rr C k (N.take j))).filter (fun x => !ofG sn x)) := by
              show _ = _
              rw [HSN.out, trimN_drop _ _ _ _ _ _ hk]
            clear hk hvk
            go_wp2_with fail
            refine (contains_i _ 3 kc (keepF Rr C sn) k w8 H8.out.2).mono ?_
            rintro e w' ⟨rfl, hw'⟩
            subst w'
            rw [HD1.out]
            go_wp2_with fail
            refine Calls.mono HFG.out ?_
            clear HFG
            rintro e w9 ⟨rfl, v2, hT, hK⟩
            have H9 : Hid (TrS B w0 w w9 s g it (fun b => b = q ∨ (0 < nn ∧ ∃ a, some (Addr.mk tb tof none) = some a ∧ b = a.block)) w6 m R O (D ++ [k]) (upd (trimX Rr C X D) k ((X k).filter (trimN Rr C k (N.take (j + 1)))))) := by
              obtain ⟨O', A', h1, h2, h3, h4⟩ := HVK.out
              rw [← HTD.out] at hT
              have := H8.out.1.upd h1 h2 h3 h4 HM.out.2.1 hK hT (fun x hx => by
                simp only [upd, if_true]
                rw [HTD.out] at hx
                exact (List.mem_filter.1 hx).1)
              rw [upd_upd] at this
              exact this
            clear hT hK H8 HVK
            go_wp2
            go_roundg (nn - (j + 1))
            case measure => omega
            case rel => exact ⟨j + 1, by go_num, by omega, rfl, H9⟩
        · obtain rfl : j = nn := by omega
          have H9 : Hid (TrS B w0 w wz s g it (fun b => b = q) W4 m R O (D ++ [k]) (trimX Rr C X (D ++ [k]))) := by
            have h := HI.out
            rw [List.take_of_length_le (by rw [← HN.out.1]; exact Nat.le_refl _), trimN_end Rr C k N (X k) HN.out.2.2.1, ← trimX_snoc Rr C X D k HM.out.2.2.2] at h
            obtain ⟨O', V', A', h1, h2, h3, h4⟩ := h.ex
            exact ⟨h.iter, h.dn, h.dm, fun b hb => by
              subst hb
              have z := h.kp b (.inl rfl)
              exact ⟨z.1, z.2.1, z.2.2.trans HN.out.2.2.2.2.2⟩, O', V', A', h1, h2, h3, fun b hb => h4 b (.inl hb)⟩
          clear HI
          go_wp2
          go_roundg (ml - (D.length + 1))
          case measure => have := HM.out.2.2.1; have := HKX.out; omega
          case rel => exact ⟨D ++ [k], by simp, H9.out⟩
end Go.Proofs.YtmajlldfiiokoaaGreatDoor

/- Calls of wigwaglaw21 that come in. -/
namespace Go.Proofs.YtmajlldfiiokoaaGreatDoor
open Go.ChangeShapes Go.WideShapes Go.ChangeAt Go.RowKit Go.Deep
set_option linter.unusedVariables false
set_option linter.unnecessarySimpa false

structure Ac21 where
  ring : Ac10
  kind : Int
  x : Ep
def ac210 : Ac21 := ⟨ac100, 0, ep0⟩
def Ac21.cells (t : Ac21) : List Value := [.int .i64 t.ring.kind, .int .i64 t.ring.n, .int .i64 t.ring.via, .int .u64 t.ring.id, .int .i64 t.kind, .string t.x.gr, .int .i64 t.x.ch, .slice t.x.a t.x.ln t.x.cp, .bool t.x.any, .int .i64 t.x.till]
def Ac21.ok (W : World) (t : Ac21) : Prop := t.ring.ok ∧ i64 t.kind ∧ EpOk W t.x
theorem lenAc21 (s : Ac21) : s.cells.length = 10 := rfl
theorem cellsAc21 : Tryz.prog.cellsOf 91 = 10 := by kernel_rfl
section
variable {H : Type} {enc' : TypeId × Value → H} {W : World}
set_option maxRecDepth 100000 in
theorem ac21_of (n : Nat) (cs : List Value) (x : DataW H × List MemPlace) (h : DataW.trod enc' Tryz.prog W 0 (fun _ => true) true n 91 cs = some x) : ∃ t : Ac21, cs = t.cells ∧ t.ok W := by
  obtain ⟨xs, m, _, _, hl, hlen, hf⟩ := DataW.trod_struct Tryz.underlying91 h
  rw [cellsAc21] at hl
  match cs, hl with
  | [c0, c1, c2, c3, c4, c5, c6, c7, c8, c9], _ =>
    match xs, hlen with
    | [y0, y1, y2], _ =>
      have f0 := hf 0 _ rfl
      have f1 := hf 1 _ rfl
      have f2 := hf 2 _ rfl
      simp [cellsI1, cellsAc10, cellsEnt] at f0 f1 f2
      obtain ⟨k, e1, _, wk⟩ := DataW.trod_int Tryz.underlying3 f1
      simp at e1
      subst e1
      obtain ⟨t0, h0, o0⟩ := ac10_of _ _ _ f0
      obtain ⟨t2, h2, o2⟩ := ent_of _ _ _ f2
      obtain ⟨q0, q1, q2, q3⟩ := t0
      simp [Ac10.cells] at h0
      obtain ⟨rfl, rfl, rfl, rfl⟩ := h0
      simp [Ep.cells] at h2
      obtain ⟨rfl, rfl, rfl, rfl, rfl⟩ := h2
      exact ⟨⟨⟨q0, q1, q2, q3⟩, k, t2⟩, rfl, o0, bounds_i64 wk, o2⟩
end
theorem Ac21.at {w wr : World} {a : Option Addr} {len : Nat} {l : List Ac21} (h : InRow 10 Ac21.cells (Ac21.ok w) ac210 w a len l) (hB : Below w.heap.size w wr) {i : Nat} (hi : i < len) :
    ∃ b o, a = some ⟨b, o, none⟩ ∧ b < wr.heap.size ∧ (l.getD i ac210).ok w ∧ ∀ j, j < 10 → wr.cell? ⟨b, o + i * 10 + j, none⟩ = (l.getD i ac210).cells[j]? := by
  obtain ⟨b, o, ha, hb, hc⟩ := h.2.2.resolve_left (by omega)
  obtain ⟨hok, hcell⟩ := hc i hi
  exact ⟨b, o, ha, by have := hB.size; omega, hok, fun j hj => (hB.cell (p := ⟨b, o + i * 10 + j, none⟩) hb).trans (hcell j hj)⟩
end Go.Proofs.YtmajlldfiiokoaaGreatDoor
