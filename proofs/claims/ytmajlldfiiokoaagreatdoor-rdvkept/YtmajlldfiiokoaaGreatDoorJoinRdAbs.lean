/- The store by value: what a put, moves and trimming do to what members have. No program in sight. -/
import Derived.Test.YtmajlldfiiokoaaGreatDoorJoinRdKeep
import Derived.Test.YtmajlldfiiokoaaGreatDoorJoinTbAwake
import Derived.Test.YtmajlldfiiokoaaGreatDoorChCalm
import Derived.Test.YtmajlldfiiokoaaGreatDoorChAct
set_option linter.unnecessarySimpa false
namespace Go.Proofs.YtmajlldfiiokoaaGreatDoor
open Go.ChangeShapes Go.WideShapes Go.ChangeAt Go.RowKit Go.Deep
set_option linter.unusedVariables false

def Core.key (x : Core) : ByteArray × Int := (x.gr, x.ch)
def cleanC (x : Core) : Core := ⟨x.gr, x.ch, (cleanW (x.any, x.fs)).1, x.till, (cleanW (x.any, x.fs)).2⟩
theorem cleanC_key (x : Core) : (cleanC x).key = x.key := rfl
/-- A put, by value. -/
def putC (L : List Core) (x : Core) : List Core :=
  if hasK (L.map Core.key) x.key then L.set (lb ltK (L.map Core.key) x.key) (cleanC x) else L.take (lb ltK (L.map Core.key) x.key) ++ [cleanC x] ++ L.drop (lb ltK (L.map Core.key) x.key)
theorem core_keys (X : List Ep) : (X.map Ep.core).map Core.key = X.map Ep.key := by rw [List.map_map]; rfl
theorem putE_core (X : List Ep) (x' : Ep) (x : Core) (h : x'.core = cleanC x) : (putE X x').map Ep.core = putC (X.map Ep.core) x := by
  have hk : x'.key = x.key := by
    have := congrArg Core.key h
    rw [cleanC_key] at this
    exact this
  unfold putE putC
  rw [core_keys, hk]
  split
  · rw [List.map_set, h]
  · rw [List.map_append, List.map_append, List.map_take, List.map_drop, List.map_singleton, h]
theorem core_of {x' : Ep} {gr : ByteArray} {c till : Int} {any : Bool} {fs : List ByteArray} (h : x'.key = (gr, c) ∧ x'.till = till ∧ x'.want = cleanW (any, fs)) : x'.core = cleanC ⟨gr, c, any, till, fs⟩ := by
  obtain ⟨h1, h2, h3⟩ := h
  unfold Ep.key at h1
  unfold Ep.want at h3
  unfold Ep.core cleanC
  simp only at h1 h3 ⊢
  rw [← h3]
  cases h1
  rw [h2]
theorem ckeys_nodup {L : List Core} (h : Asc ltK (L.map Core.key)) : (L.map Core.key).Nodup := asc_nodup linK h
theorem mem_putC {L : List Core} (h : Asc ltK (L.map Core.key)) (x y : Core) : y ∈ putC L x ↔ y = cleanC x ∨ (y ∈ L ∧ y.key ≠ x.key) := by
  unfold putC
  have hget : ∀ (k : Nat) (hk : k < L.length), (L.map Core.key).getD k (ByteArray.empty, 0) = L[k].key := fun k hk => by
    rw [List.getD_eq_getElem?_getD, List.getElem?_map, List.getElem?_eq_getElem hk]; rfl
  cases hh : hasK (L.map Core.key) x.key with
  | true =>
    have hm := (hasK_iff _ _).1 hh
    have hit := (lb_hit (ByteArray.empty, (0 : Int)) linK _ h x.key).2 hm
    have hl : lb ltK (L.map Core.key) x.key < L.length := by simpa using hit.1
    have hk := hit.2
    rw [hget _ hl] at hk
    simp only [if_true]
    generalize lb ltK (L.map Core.key) x.key = k at hl hk
    have hnd := ckeys_nodup h
    constructor
    · intro hy
      obtain ⟨t, ht, rfl⟩ := List.getElem_of_mem hy
      rw [List.getElem_set] at *
      by_cases e : k = t
      · left; simp [e]
      · right
        have htl : t < L.length := by simpa using ht
        simp only [e, if_false]
        refine ⟨List.getElem_mem _, fun q => e ?_⟩
        have hi' : t < (L.map Core.key).length := by simpa using htl
        have hj' : k < (L.map Core.key).length := by simpa using hl
        exact ((List.getElem_inj (h₀ := hi') (h₁ := hj') hnd).1 (by rw [List.getElem_map, List.getElem_map]; exact q.trans hk.symm)).symm
    · rintro (rfl | ⟨h1, h2⟩)
      · exact List.mem_set hl _
      · obtain ⟨t, ht, rfl⟩ := List.getElem_of_mem h1
        have hne : k ≠ t := fun e => h2 (by subst e; exact hk)
        exact List.mem_of_getElem? (i := t) (by rw [List.getElem?_set_ne hne, List.getElem?_eq_getElem ht])
  | false =>
    have hm : x.key ∉ L.map Core.key := fun q => by have := (hasK_iff _ _).2 q; rw [hh] at this; cases this
    simp only [Bool.false_eq_true, if_false]
    generalize lb ltK (L.map Core.key) x.key = k
    have e : y ∈ L ↔ y ∈ L.take k ∨ y ∈ L.drop k := by rw [← List.mem_append, List.take_append_drop]
    have hne : y ∈ L → y.key ≠ x.key := fun hy q => hm (by rw [← q]; exact List.mem_map_of_mem hy)
    constructor
    · intro hy
      rcases List.mem_append.1 hy with q | q
      · rcases List.mem_append.1 q with q | q
        · exact .inr ⟨e.2 (.inl q), hne (e.2 (.inl q))⟩
        · exact .inl (List.mem_singleton.1 q)
      · exact .inr ⟨e.2 (.inr q), hne (e.2 (.inr q))⟩
    · rintro (rfl | ⟨h1, _⟩)
      · simp
      · rcases e.1 h1 with q | q <;> simp [q]
theorem mem_putE' {X : List Ep} (h : Asc ltK (X.map Ep.key)) (x y : Ep) (hy : y ∈ putE X x) : y = x ∨ y ∈ X := by
  unfold putE at hy
  split at hy
  · rcases List.mem_or_eq_of_mem_set hy with q | q
    · exact .inr q
    · exact .inl q
  · rcases List.mem_append.1 hy with q | q
    · rcases List.mem_append.1 q with q | q
      · exact .inr (List.mem_of_mem_take q)
      · exact .inl (List.mem_singleton.1 q)
    · exact .inr (List.mem_of_mem_drop q)
/-- All keys are among these. -/
def KeysIn (A : Int → List Core) (Ks : List (ByteArray × Int)) : Prop := ∀ n, ∀ z ∈ A n, z.key ∈ Ks
/-- Each member's keys rise. -/
def AscA (A : Int → List Core) : Prop := ∀ n, Asc ltK ((A n).map Core.key)
theorem AscA.len {A : Int → List Core} (h : AscA A) {Ks : List (ByteArray × Int)} (hk : KeysIn A Ks) (n : Int) : (A n).length ≤ Ks.length := by
  have := (ckeys_nodup (h n)).length_le_of_subset (l₂ := Ks) (fun z hz => by
    obtain ⟨y, hy, rfl⟩ := List.mem_map.1 hz
    exact hk n y hy)
  simpa using this
def ofC (g : ByteArray) (x : Core) : Bool := x.gr.toList == g.toList
theorem filter_core (p : Core → Bool) (X : List Ep) : (X.filter (fun x => p x.core)).map Ep.core = (X.map Ep.core).filter p := by
  rw [List.filter_map]; rfl
theorem ofC_iff (g : ByteArray) (x : Core) : ofC g x = true ↔ x.gr = g := by
  unfold ofC
  rw [eqS]
  simp
theorem KeysIn.put {A : Int → List Core} {Ks : List (ByteArray × Int)} (h : KeysIn A Ks) (ha : AscA A) (n : Int) (x : Core) (hx : x.key ∈ Ks) : KeysIn (upd A n (putC (A n) x)) Ks := fun k z hz => by
  by_cases e : k = n
  · subst e
    simp only [upd, if_true] at hz
    rcases (mem_putC (ha k) x z).1 hz with rfl | q
    · exact hx
    · exact h k z q.1
  · simp only [upd, if_neg e] at hz; exact h k z hz
/-- A wish at several members. -/
def putsA (A : Int → List Core) (K : List Int) (x : Core) : Int → List Core := K.foldl (fun A n => upd A n (putC (A n) x)) A
/-- Several wishes at a member. -/
def putL (A : Int → List Core) (n : Int) (L : List Core) : Int → List Core := L.foldl (fun A x => upd A n (putC (A n) x)) A
/-- A move. -/
def moveA (A : Int → List Core) (m : ByteArray × Int × Int) : Int → List Core := putL A m.2.2 ((A m.2.1).filter (ofC m.1))
def movesA (A : Int → List Core) (L : List (ByteArray × Int × Int)) : Int → List Core := L.foldl moveA A
end Go.Proofs.YtmajlldfiiokoaaGreatDoor

/- Who stays: circle.Peer of one that isn't there, slices.IndexFunc. -/
namespace Go.Proofs.YtmajlldfiiokoaaGreatDoor
open Go.ChangeShapes Go.WideShapes Go.ChangeAt Go.RowKit Go.Deep
set_option linter.unusedVariables false

set_option maxHeartbeats 2000000 in
theorem cpeer_no {w : World} {R : Rg} {C : List Int} {g c d n : Nat} {b : Option Addr} (h : CAt w R C g c d n b) (x : Int) (hx : x ∉ C) :
    Calls Tryz.prog 35 #[.agg #[.slice (some ⟨g, 0, none⟩) n c, .slice b n d], .int .i64 x] w fun e w' => e = .returned (.tuple #[.agg #[.int .u64 0, .int .i64 0, .slice none 0 0], .bool false]) ∧ Below w.heap.size w w' := by
  obtain ⟨W1, hW1⟩ : ∃ W1, W1 = (w.alloc (.cells #[.slice (some ⟨g, 0, none⟩) n c, .slice b n d] 50)).alloc (.cells #[.int .u64 0, .int .i64 0, .slice none 0 0] 80) := ⟨_, rfl⟩
  have b1 : Below w.heap.size w W1 := by rw [hW1]; exact (below_one _ _).trans ((below_one _ _).mono (by simp))
  have e0 : W1.heap[w.heap.size]? = some (.cells #[.slice (some ⟨g, 0, none⟩) n c, .slice b n d] 50 (0, 0)) := by rw [hW1, Below.heap_alloc _ _ _ (by simp)]; exact heap_alloc_new w _
  have e1 : W1.heap[w.heap.size + 1]? = some (.cells #[.int .u64 0, .int .i64 0, .slice none 0 0] 80 (0, 0)) := by rw [hW1]; simpa using heap_alloc_new (w.alloc (.cells #[.slice (some ⟨g, 0, none⟩) n c, .slice b n d] 50)) (.cells #[.int .u64 0, .int .i64 0, .slice none 0 0] 80)
  have s1 : W1.heap.size = w.heap.size + 2 := by rw [hW1]; simp
  have x0 : W1.cell? ⟨w.heap.size, 0, none⟩ = some (.slice (some ⟨g, 0, none⟩) n c) := by simp [World.cell?, e0]
  have x1 : W1.cell? ⟨w.heap.size, 1, none⟩ = some (.slice b n d) := by simp [World.cell?, e0]
  have t0 : W1.cell? ⟨w.heap.size + 1, 0, none⟩ = some (.int .u64 0) := by simp [World.cell?, e1]
  have t1 : W1.cell? ⟨w.heap.size + 1, 1, none⟩ = some (.int .i64 0) := by simp [World.cell?, e1]
  have t2 : W1.cell? ⟨w.heap.size + 1, 2, none⟩ = some (.slice none 0 0) := by simp [World.cell?, e1]
  have tf : ∀ o, W1.frozen? ⟨w.heap.size + 1, o, none⟩ = false := fun o => by simp [World.frozen?, e1]
  have tz := cell_block t0
  have xz := cell_block x0
  have IDX : Hid _ := index_none (some ⟨g, 0, none⟩) n c C x W1 (h.mem.below (Nat.le_refl _) b1) (fun j hj e => hx (by rw [← e, List.getD_eq_getElem?_getD, List.getElem?_eq_getElem (by rw [h.len]; exact hj)]; simp))
  have HB : Hid (Below w.heap.size w W1) := b1
  clear h b1 e0 e1 s1 hx
  go_enter Tryz.func35, Tryz.ntmps35
  go_upto_region 1 with fail
  rw [← hW1]
  clear hW1
  go_wp2_with fail
  refine Calls.mono IDX.out ?_
  rintro e w' ⟨rfl, hw'⟩
  subst w'
  go_wp2
  refine bodyPost_ret (v := .tuple #[.agg #[.int .u64 0, .int .i64 0, .slice none 0 0], .bool false]) (by simp [results, Tryz.results35, go_sem, *]) rfl ⟨rfl, ?_⟩
  first
    | exact HB.out
    | exact ((HB.out.setCell (p := ⟨w.heap.size + 1, 0, none⟩) (by show _ ≤ w.heap.size + 1; omega) _).setCell (p := ⟨w.heap.size + 1, 1, none⟩) (by show _ ≤ w.heap.size + 1; omega) _).setCell (p := ⟨w.heap.size + 1, 2, none⟩) (by show _ ≤ w.heap.size + 1; omega) _

set_option maxHeartbeats 1000000 in
/-- Is one a member of the circle? -/
theorem stays_any (q : Nat) (R : Rg) (C : List Int) (g c d n : Nat) (b : Option Addr) (x : Int) (w : World) (h : CAt w R C g c d n b) (h0 : w.cell? ⟨q, 0, none⟩ = some (.slice (some ⟨g, 0, none⟩) n c)) (h1 : w.cell? ⟨q, 1, none⟩ = some (.slice b n d)) :
    Calls Tryz.prog 118 #[.int .i64 x, .pointer (some ⟨q, 0, none⟩)] w fun e w' => e = .returned (.bool (decide (x ∈ C))) ∧ Below w.heap.size w w' := by
  by_cases hx : x ∈ C
  · obtain ⟨i, hi, he⟩ := List.mem_iff_getElem.1 hx
    have hg : C.getD i 0 = x := by rw [List.getD_eq_getElem?_getD, List.getElem?_eq_getElem hi]; exact he
    have := stays_c q R C g c d n i b w h h0 h1 (by rw [← h.len]; exact hi)
    rw [hg] at this
    rw [show decide (x ∈ C) = true by simpa using hx]
    exact this
  · rw [show decide (x ∈ C) = false by simpa using hx]
    have HP : Hid _ := cpeer_no h x hx
    have hl := cell_block h0
    clear h hx
    go_enter Tryz.func118, Tryz.ntmps118
    go_wp2_with fail
    refine Calls.mono HP.out ?_
    clear HP
    rintro e w1 ⟨rfl, b1⟩
    have HB : Hid (Below w.heap.size w w1) := b1
    clear b1 h0 h1 hl
    go_wp2
    go_ret
    exact ⟨rfl, HB.out.trans ((below_one _ _).mono HB.out.size)⟩

/-- The first that is it; -1: none. -/
def fidx (p : Int → Bool) (l : List Int) : Int := match l.findIdx? p with | none => -1 | some i => (i : Int)
theorem fidx_at {p : Int → Bool} {l : List Int} {i : Nat} (hi : i < l.length) (hp : p (l.getD i 0) = true) (hn : ∀ j, j < i → p (l.getD j 0) = false) : l.findIdx? p = some i := by
  rw [List.findIdx?_eq_some_iff_getElem]
  refine ⟨hi, ?_, fun j hj => ?_⟩
  · rw [List.getD_eq_getElem?_getD, List.getElem?_eq_getElem hi] at hp; exact hp
  · have := hn j hj
    rw [List.getD_eq_getElem?_getD, List.getElem?_eq_getElem (show j < l.length by omega)] at this
    simpa using this
theorem fidx_none {p : Int → Bool} {l : List Int} (hn : ∀ j, j < l.length → p (l.getD j 0) = false) : l.findIdx? p = none := by
  rw [List.findIdx?_eq_none_iff]
  intro x hx
  obtain ⟨j, hj, rfl⟩ := List.getElem_of_mem hx
  have := hn j hj
  rw [List.getD_eq_getElem?_getD, List.getElem?_eq_getElem hj] at this
  simpa using this
set_option maxHeartbeats 1000000 in
theorem indexfunc_g (a : Option Addr) (n c : Nat) (l : List Int) (w : World) (fn q : Nat) (p : Int → Bool) (h : InIn w a n l) (hnn : n ≤ 100000) (hf : ∀ x W, Below w.heap.size w W → Calls Tryz.prog fn #[.int .i64 x, .pointer (some ⟨q, 0, none⟩)] W fun e w' => e = .returned (.bool (p x)) ∧ Below W.heap.size W w') (hfn : fn = 118) :
    Calls Tryz.prog 117 #[.slice a n c, .func (.func fn) #[] #[.pointer (some ⟨q, 0, none⟩)]] w fun e w' => e = .returned (.int .i64 (fidx p l)) ∧ Below w.heap.size w w' := by
  subst hfn
  have HF : Hid _ := hf
  have HI : Hid (InIn w a n l ∧ l.length = n) := ⟨h, h.1⟩
  clear hf h
  go_enter Tryz.func117, Tryz.ntmps117
  go_wp2
  go_loopg [8] n (fun kx s wr => ∃ j : Nat, s = .int .i64 j ∧ j ≤ n ∧ kx = n - j ∧ Hid (Below w.heap.size w wr ∧ ∀ i, i < j → p (l.getD i 0) = false))
  case atStart => exact ⟨0, rfl, Nat.zero_le _, rfl, ⟨Below.refl _ _, fun i hi => absurd hi (Nat.not_lt_zero _)⟩⟩
  case round =>
    obtain ⟨j, rfl, hj, rfl, HB⟩ := hrel
    by_cases hlt : j < n
    · have hltI : (j : Int) < (n : Int) := by omega
      obtain ⟨mb, mo, hmb, hml, _, hmc⟩ := (HI.out.1.below (Nat.le_refl _) HB.out.1).one (v := Value.int .i64) (fun _ => rfl) (i := j) hlt
      subst hmb
      obtain ⟨x, hx⟩ : ∃ x, x = l.getD j 0 := ⟨_, rfl⟩
      rw [← hx] at hmc
      have HX : Hid (x = l.getD j 0) := hx
      have HC : Hid _ := HF.out x wr HB.out.1
      clear hx
      obtain ⟨y, hy⟩ : ∃ y, y = p x := ⟨_, rfl⟩
      rw [← hy] at HC
      have HY : Hid (y = p x) := hy
      clear hy
      cases y
      · go_wp2_with fail
        refine Calls.mono HC.out ?_
        rintro e w1 ⟨rfl, b1⟩
        have H1 : Hid (Below w.heap.size w w1 ∧ ∀ i, i < j + 1 → p (l.getD i 0) = false) := ⟨HB.out.1.trans (b1.mono HB.out.1.size), fun i hi => by
          by_cases e : i = j
          · subst e; rw [← HX.out, ← HY.out]
          · exact HB.out.2 i (by omega)⟩
        clear b1 hmc hml
        go_wp2
        go_roundg (n - (j + 1))
        case measure => omega
        case rel => exact ⟨j + 1, by go_num, by omega, rfl, H1⟩
      · go_wp2_with fail
        refine Calls.mono HC.out ?_
        rintro e w1 ⟨rfl, b1⟩
        have H1 : Hid (Below w.heap.size w w1 ∧ fidx p l = (j : Int)) := ⟨HB.out.1.trans (b1.mono HB.out.1.size), by
          unfold fidx
          rw [fidx_at (by rw [HI.out.2]; exact hlt) (by rw [← HX.out, ← HY.out]) HB.out.2]⟩
        clear b1 hmc hml
        go_wp2
        go_ret
        exact ⟨by rw [H1.out.2]; rfl, H1.out.1⟩
    · obtain rfl : j = n := by omega
      have H1 : Hid (fidx p l = -1) := by
        show _ = _
        unfold fidx
        rw [fidx_none (fun i hi => HB.out.2 i (by rw [HI.out.2] at hi; exact hi))]
      go_wp2
      go_ret
      exact ⟨by rw [H1.out]; rfl, HB.out.1⟩
end Go.Proofs.YtmajlldfiiokoaaGreatDoor

/- rdv.moves, whoever stays. -/
namespace Go.Proofs.YtmajlldfiiokoaaGreatDoor
open Go.ChangeShapes Go.WideShapes Go.ChangeAt Go.RowKit Go.Deep
set_option linter.unusedVariables false

set_option maxRecDepth 100000 in
set_option maxHeartbeats 4000000 in
theorem moves_g (R1 R2 : Rg) (C1 C2 : List Int) (g1 c1 d1 n1 k1 g2 c2 d2 n2 k2 : Nat) (b1 b2 : Option Addr) (s : ByteArray) (w : World) (h1 : CAt w R1 C1 g1 c1 d1 n1 b1) (h2 : CAt w R2 C2 g2 c2 d2 n2 b2)
    (ho1 : ownerN (C1.map R1.idOf) (gkeyT s) = (k1 : Int)) (hk1 : k1 < n1) (ho2 : ownerN (C2.map R2.idOf) (gkeyT s) = (k2 : Int)) (hk2 : k2 < n2) (hs : s.size ≤ 200) (i1 : Nat) (hi1 : i1 < 3) (hfi : fidx (fun x => decide (x ∈ C2)) (keepL C1 k1) = (i1 : Int)) :
    Calls Tryz.prog 66 #[.agg #[.slice (some ⟨g1, 0, none⟩) n1 c1, .slice b1 n1 d1], .agg #[.slice (some ⟨g2, 0, none⟩) n2 c2, .slice b2 n2 d2], .string s] w fun e w' =>
      (∃ v T, e = .returned v ∧ T.Perm (keepL C2 k2) ∧ T.Pairwise (· ≤ ·) ∧ w'.ownsRow w.heap.size 69 3 v (movesL s ((keepL C1 k1).getD i1 0) (keepL C1 k1) T).length ((movesL s ((keepL C1 k1).getD i1 0) (keepL C1 k1) T).flatMap encM)) ∧ Below w.heap.size w w' := by
  obtain ⟨i0, hif, hz0, hz1, hz2⟩ := info_parts Tryz.infoMv
  obtain ⟨q, hq⟩ : ∃ q, q = w.heap.size := ⟨_, rfl⟩
  obtain ⟨W, hW⟩ : ∃ W, W = (w.alloc (.cells #[.slice (some ⟨g1, 0, none⟩) n1 c1, .slice b1 n1 d1] 50)).alloc (.cells #[.slice (some ⟨g2, 0, none⟩) n2 c2, .slice b2 n2 d2] 50) := ⟨_, rfl⟩
  have e1 : Below w.heap.size w (w.alloc (.cells #[.slice (some ⟨g1, 0, none⟩) n1 c1, .slice b1 n1 d1] 50)) := below_one _ _
  have e2 : Below (w.alloc (.cells #[.slice (some ⟨g1, 0, none⟩) n1 c1, .slice b1 n1 d1] 50)).heap.size (w.alloc (.cells #[.slice (some ⟨g1, 0, none⟩) n1 c1, .slice b1 n1 d1] 50)) W := by rw [hW]; exact below_one _ _
  have bW : Below w.heap.size w W := e1.trans (e2.mono e1.size)
  have x0 : W.cell? ⟨q, 0, none⟩ = some (.slice (some ⟨g1, 0, none⟩) n1 c1) := cell_grown (by rw [hq]; exact World.cell?_alloc_new ..) e2
  have x1 : W.cell? ⟨q, 1, none⟩ = some (.slice b1 n1 d1) := cell_grown (by rw [hq]; simp) e2
  have y0 : W.cell? ⟨q + 1, 0, none⟩ = some (.slice (some ⟨g2, 0, none⟩) n2 c2) := by rw [hW, show q + 1 = (w.alloc (.cells #[.slice (some ⟨g1, 0, none⟩) n1 c1, .slice b1 n1 d1] 50)).heap.size by rw [hq]; simp]; exact World.cell?_alloc_new ..
  have y1 : W.cell? ⟨q + 1, 1, none⟩ = some (.slice b2 n2 d2) := by rw [hW, hq]; simp
  have xl := cell_block x0
  have yl := cell_block y0
  have H1 : Hid (CAt W R1 C1 g1 c1 d1 n1 b1 ∧ CAt W R2 C2 g2 c2 d2 n2 b2 ∧ Below w.heap.size w W) := ⟨h1.below bW, h2.below bW, bW⟩
  have hKr : ∀ x ∈ keepL C2 k2, i64 x := fun x hx => by
    have := h2.rng x (keepL_sub (by rw [h2.len]; exact hk2) hx); unfold i64; omega
  have hKl : (keepL C2 k2).length = 3 := keepL_len (by rw [h2.len]; exact h2.n4) (by rw [h2.len]; exact hk2)
  obtain ⟨o, hoe⟩ : ∃ o, o = (keepL C1 k1).getD i1 0 := ⟨_, rfl⟩
  have HK : Hid (ownerN (C1.map R1.idOf) (gkeyT s) = (k1 : Int) ∧ k1 < n1 ∧ ownerN (C2.map R2.idOf) (gkeyT s) = (k2 : Int) ∧ k2 < n2 ∧ s.size ≤ 200 ∧ fidx (fun x => decide (x ∈ C2)) (keepL C1 k1) = (i1 : Int) ∧ True ∧ o = (keepL C1 k1).getD i1 0 ∧ (∀ x ∈ keepL C2 k2, i64 x) ∧ (keepL C2 k2).length = 3) := ⟨ho1, hk1, ho2, hk2, hs, hfi, trivial, hoe, hKr, hKl⟩
  rw [← hoe]
  clear h1 h2 ho1 hk1 ho2 hk2 hs hfi hKr hKl e1 e2 bW hoe
  go_enter Tryz.func66, Tryz.ntmps66
  go_upto_region 1 with fail
  rw [← hW]
  try rw [← hq]
  clear hW hq
  go_wp2_with fail
  refine (keepers_c H1.out.1 s HK.out.1 HK.out.2.1 HK.out.2.2.2.2.1).mono ?_
  rintro e w1 ⟨⟨ka, kc, rfl, hin1⟩, bb1⟩
  replace x0 := cell_grown x0 bb1
  replace x1 := cell_grown x1 bb1
  replace xl := cell_block x0
  replace y0 := cell_grown y0 bb1
  replace y1 := cell_grown y1 bb1
  replace yl := cell_block y0
  have H2 : Hid (CAt w1 R2 C2 g2 c2 d2 n2 b2 ∧ Below w.heap.size w w1 ∧ InIn w1 ka 3 (keepL C1 k1)) := ⟨H1.out.2.1.below bb1, H1.out.2.2.trans (bb1.mono H1.out.2.2.size), hin1⟩
  clear bb1 hin1 H1
  have HF : Hid _ := indexfunc_g ka 3 kc (keepL C1 k1) w1 _ (q + 1) (fun x => decide (x ∈ C2)) H2.out.2.2 (by omega) (fun x W hb => stays_any (q + 1) R2 C2 g2 c2 d2 n2 b2 x W (H2.out.1.below hb) (cell_grown y0 hb) (cell_grown y1 hb)) rfl
  rw [HK.out.2.2.2.2.2.1] at HF
  have hi1I : (0 : Int) ≤ (i1 : Int) := by omega
  have hi1J : (i1 : Int) < 3 := by omega
  go_wp2_with fail
  refine Calls.mono HF.out ?_
  clear HF
  rintro e w2 ⟨rfl, bb2⟩
  replace x0 := cell_grown x0 bb2
  replace x1 := cell_grown x1 bb2
  replace xl := cell_block x0
  replace y0 := cell_grown y0 bb2
  replace y1 := cell_grown y1 bb2
  replace yl := cell_block y0
  have H3 : Hid (CAt w2 R2 C2 g2 c2 d2 n2 b2 ∧ Below w.heap.size w w2 ∧ InIn w2 ka 3 (keepL C1 k1)) := ⟨H2.out.1.below bb2, H2.out.2.1.trans (bb2.mono H2.out.2.1.size), H2.out.2.2.below (Nat.le_refl _) bb2⟩
  clear bb2 H2
  go_wp2_with fail
  refine (keepers_c H3.out.1 s HK.out.2.2.1 HK.out.2.2.2.1 HK.out.2.2.2.2.1).mono ?_
  rintro e w3 ⟨⟨la, lc, rfl, hin3⟩, bb3⟩
  have H4 : Hid (Below w.heap.size w w3 ∧ InIn w3 ka 3 (keepL C1 k1) ∧ InIn w3 la 3 (keepL C2 k2)) := ⟨H3.out.2.1.trans (bb3.mono H3.out.2.1.size), H3.out.2.2.below (Nat.le_refl _) bb3, hin3⟩
  clear bb3 hin3 H3 x0 x1 xl y0 y1 yl
  go_wp2_with fail
  refine (values_i la 3 lc w3).mono ?_
  rintro e w4 ⟨rfl, hw4⟩
  have b4 : Below w3.heap.size w3 w4 := by rw [hw4]; exact below_one _ _
  have z0 : w4.cell? ⟨w3.heap.size, 0, none⟩ = some (.slice la 3 lc) := by rw [hw4]; exact World.cell?_alloc_new ..
  have H5 : Hid (Below w.heap.size w w4 ∧ InIn w4 ka 3 (keepL C1 k1) ∧ InIn w4 la 3 (keepL C2 k2)) := ⟨H4.out.1.trans (b4.mono H4.out.1.size), H4.out.2.1.below (Nat.le_refl _) b4, H4.out.2.2.below (Nat.le_refl _) b4⟩
  have HS : Hid _ := sorted_i w3.heap.size 3 (.slice la 3 lc) (keepL C2 k2) w4 HK.out.2.2.2.2.2.2.2.2.2 (cell_block z0) z0 (els_of H5.out.2.2) (by rw [HK.out.2.2.2.2.2.2.2.2.2]; omega) HK.out.2.2.2.2.2.2.2.2.1
  clear hw4 b4 z0 H4
  go_wp2_with fail
  refine Calls.mono HS.out ?_
  clear HS
  rintro e w5 ⟨⟨ta, tc, T, rfl, hin5, hperm, hsrt⟩, b5⟩
  have H6 : Hid (Below w.heap.size w w5 ∧ InIn w5 ka 3 (keepL C1 k1) ∧ InIn w5 ta 3 T ∧ T.Perm (keepL C2 k2) ∧ T.Pairwise (· ≤ ·)) := ⟨H5.out.1.trans (b5.mono H5.out.1.size), H5.out.2.1.below (Nat.le_refl _) b5, hin5, hperm, hsrt⟩
  clear hin5 hperm hsrt b5 H5
  go_wp2
  go_loopg [9, 26] 3 (fun kx v st wr => ∃ (j : Nat) (a : Option Addr) (m c : Nat), st = .int .i64 j ∧ v = .slice a m c ∧ j ≤ 3 ∧ m ≤ j ∧ kx = 3 - j ∧ Hid (∃ L, L.length = m ∧ wr.ownsRow w5.heap.size 69 3 (.slice a m c) m (L.flatMap encM) ∧ Below w5.heap.size w5 wr ∧ L = movesL s o (keepL C1 k1) (T.take j)))
  case atStart => exact ⟨0, none, 0, 0, rfl, rfl, by omega, by omega, rfl, ⟨[], rfl, World.ownsRow_nil _ _ _ _, Below.refl _ _, by simp [movesL]⟩⟩
  case round =>
    obtain ⟨j, a, m, c, rfl, rfl, hj, hm, rfl, HB⟩ := hrel
    obtain ⟨L, hL1, hL2, hL3, hL4⟩ := HB.out
    have HL : Hid (L.length = m ∧ wr.ownsRow w5.heap.size 69 3 (.slice a m c) m (L.flatMap encM) ∧ Below w5.heap.size w5 wr ∧ L = movesL s o (keepL C1 k1) (T.take j)) := ⟨hL1, hL2, hL3, hL4⟩
    clear HB hL1 hL2 hL3 hL4
    by_cases hlt : j < 3
    · have hltI : (j : Int) < 3 := by omega
      obtain ⟨mb, mo, hmb, hml, _, hmc⟩ := (H6.out.2.2.1.below (Nat.le_refl _) HL.out.2.2.1).one (v := Value.int .i64) (fun _ => rfl) (i := j) hlt
      subst hmb
      obtain ⟨kb, ko, hkb, hkl, _, hkc⟩ := (H6.out.2.1.below (Nat.le_refl _) HL.out.2.2.1).one (v := Value.int .i64) (fun _ => rfl) (i := i1) hi1
      have HKI : Hid (InIn wr ka 3 (keepL C1 k1)) := H6.out.2.1.below (Nat.le_refl _) HL.out.2.2.1
      subst hkb
      rw [show (keepL C1 k1).getD i1 0 = o from HK.out.2.2.2.2.2.2.2.1.symm] at hkc
      have hsn := take_snocI T (j := j) (by rw [H6.out.2.2.1.1]; exact hlt)
      obtain ⟨x, hx⟩ : ∃ x, x = T.getD j 0 := ⟨_, rfl⟩
      rw [← hx] at hmc hsn
      have HSN : Hid (T.take (j + 1) = T.take j ++ [x]) := hsn
      clear hx hsn
      by_cases hin : x ∈ keepL C1 k1
      · have HI : Hid (decide (x ∈ keepL C1 k1) = true ∧ L = movesL s o (keepL C1 k1) (T.take (j + 1))) := ⟨by simpa using hin, by rw [HSN.out, movesL_snoc, if_pos hin]; exact HL.out.2.2.2⟩
        clear hin
        go_wp2_with fail
        refine (contains_i _ 3 kc (keepL C1 k1) x wr HKI.out).mono ?_
        rintro e w' ⟨rfl, hw'⟩
        subst w'
        rw [HI.out.1]
        clear hmc hkc hml hkl
        go_wp2
        go_roundg (3 - (j + 1))
        case measure => omega
        case rel => exact ⟨j + 1, a, m, c, by go_num, rfl, by omega, by omega, rfl, ⟨L, HL.out.1, HL.out.2.1, HL.out.2.2.1, HI.out.2⟩⟩
      · have HI : Hid (decide (x ∈ keepL C1 k1) = false ∧ L ++ [(s, o, x)] = movesL s o (keepL C1 k1) (T.take (j + 1))) := ⟨by simpa using hin, by rw [HSN.out, movesL_snoc, if_neg hin, ← HL.out.2.2.2]⟩
        clear hin
        go_wp2_with fail
        refine (contains_i _ 3 kc (keepL C1 k1) x wr HKI.out).mono ?_
        rintro e w' ⟨rfl, hw'⟩
        subst w'
        rw [HI.out.1]
        have HA : Hid ((wr.alloc (.cells #[.string s, .int .i64 o, .int .i64 x] 69)).ownsRow w5.heap.size 69 3 (.slice a m c) m (L.flatMap encM)) := row_at HL.out.2.1 (fun z hz => Below.heap_alloc _ _ _ (World.ownsRow.lt HL.out.2.1 z hz).2)
        have HSz : Hid (w5.heap.size ≤ wr.heap.size) := HL.out.2.2.1.size
        go_wp2_with (at_builtin; go_loud (refine wpList_own_append3 _ rfl _ _ 63 63 rfl w5.heap.size 69 i0 _ 32 Tryz.underlying63 hif hz0 hz1 hz2 rfl _ _ _ rfl HA.out _ 1 (encM (s, o, x)) rfl (src_mv wr (s, o, x)) (by unfold maxLen; omega) (by omega) (by have := HSz.out; simp; omega) ?_))
        intro v' w8 ha
        obtain ⟨x8, k8, rfl⟩ := ha.shape
        have H8 : Hid (w8.ownsRow w5.heap.size 69 3 (.slice x8 (m + 1) k8) (m + 1) ((L ++ [(s, o, x)]).flatMap encM) ∧ Below w5.heap.size w5 w8) := by
          refine ⟨by rw [flat_snocM]; exact ha.row, ?_⟩
          have b := HL.out.2.2.1.alloc HL.out.2.2.1.size (.cells #[.string s, .int .i64 o, .int .i64 x] 69)
          exact b.grown ha.grown b.size (fun k hk => (World.ownsRow.lt HA.out k hk).1)
        clear ha HA HSz hmc hkc hml hkl
        go_wp2
        go_roundg (3 - (j + 1))
        case measure => omega
        case rel => exact ⟨j + 1, x8, m + 1, k8, by go_num, rfl, by omega, by omega, rfl, ⟨L ++ [(s, o, x)], by simp [HL.out.1], H8.out.1, H8.out.2, HI.out.2⟩⟩
    · obtain rfl : j = 3 := by omega
      have HLT : Hid (L = movesL s o (keepL C1 k1) T) := by
        have := HL.out.2.2.2
        rw [List.take_of_length_le (by rw [H6.out.2.2.1.1]; omega)] at this
        exact this
      go_wp2
      go_ret
      refine ⟨⟨_, T, rfl, H6.out.2.2.2.1, H6.out.2.2.2.2, ?_⟩, H6.out.1.trans (HL.out.2.2.1.mono H6.out.1.size)⟩
      rw [← HLT.out, HL.out.1]
      exact own_lower HL.out.2.1 H6.out.1.size
set_option maxRecDepth 100000 in
set_option maxHeartbeats 4000000 in
theorem moves_no (R1 R2 : Rg) (C1 C2 : List Int) (g1 c1 d1 n1 k1 g2 c2 d2 n2 k2 : Nat) (b1 b2 : Option Addr) (s : ByteArray) (w : World) (h1 : CAt w R1 C1 g1 c1 d1 n1 b1) (h2 : CAt w R2 C2 g2 c2 d2 n2 b2)
    (ho1 : ownerN (C1.map R1.idOf) (gkeyT s) = (k1 : Int)) (hk1 : k1 < n1) (ho2 : ownerN (C2.map R2.idOf) (gkeyT s) = (k2 : Int)) (hk2 : k2 < n2) (hs : s.size ≤ 200) (hfi : fidx (fun x => decide (x ∈ C2)) (keepL C1 k1) = -1) :
    Calls Tryz.prog 66 #[.agg #[.slice (some ⟨g1, 0, none⟩) n1 c1, .slice b1 n1 d1], .agg #[.slice (some ⟨g2, 0, none⟩) n2 c2, .slice b2 n2 d2], .string s] w fun e w' =>
      e = .returned (.slice none 0 0) ∧ Below w.heap.size w w' := by
  obtain ⟨q, hq⟩ : ∃ q, q = w.heap.size := ⟨_, rfl⟩
  obtain ⟨W, hW⟩ : ∃ W, W = (w.alloc (.cells #[.slice (some ⟨g1, 0, none⟩) n1 c1, .slice b1 n1 d1] 50)).alloc (.cells #[.slice (some ⟨g2, 0, none⟩) n2 c2, .slice b2 n2 d2] 50) := ⟨_, rfl⟩
  have e1 : Below w.heap.size w (w.alloc (.cells #[.slice (some ⟨g1, 0, none⟩) n1 c1, .slice b1 n1 d1] 50)) := below_one _ _
  have e2 : Below (w.alloc (.cells #[.slice (some ⟨g1, 0, none⟩) n1 c1, .slice b1 n1 d1] 50)).heap.size (w.alloc (.cells #[.slice (some ⟨g1, 0, none⟩) n1 c1, .slice b1 n1 d1] 50)) W := by rw [hW]; exact below_one _ _
  have bW : Below w.heap.size w W := e1.trans (e2.mono e1.size)
  have x0 : W.cell? ⟨q, 0, none⟩ = some (.slice (some ⟨g1, 0, none⟩) n1 c1) := cell_grown (by rw [hq]; exact World.cell?_alloc_new ..) e2
  have x1 : W.cell? ⟨q, 1, none⟩ = some (.slice b1 n1 d1) := cell_grown (by rw [hq]; simp) e2
  have y0 : W.cell? ⟨q + 1, 0, none⟩ = some (.slice (some ⟨g2, 0, none⟩) n2 c2) := by rw [hW, show q + 1 = (w.alloc (.cells #[.slice (some ⟨g1, 0, none⟩) n1 c1, .slice b1 n1 d1] 50)).heap.size by rw [hq]; simp]; exact World.cell?_alloc_new ..
  have y1 : W.cell? ⟨q + 1, 1, none⟩ = some (.slice b2 n2 d2) := by rw [hW, hq]; simp
  have xl := cell_block x0
  have yl := cell_block y0
  have H1 : Hid (CAt W R1 C1 g1 c1 d1 n1 b1 ∧ CAt W R2 C2 g2 c2 d2 n2 b2 ∧ Below w.heap.size w W) := ⟨h1.below bW, h2.below bW, bW⟩
  have hKr : ∀ x ∈ keepL C2 k2, i64 x := fun x hx => by
    have := h2.rng x (keepL_sub (by rw [h2.len]; exact hk2) hx); unfold i64; omega
  have hKl : (keepL C2 k2).length = 3 := keepL_len (by rw [h2.len]; exact h2.n4) (by rw [h2.len]; exact hk2)
  have HK : Hid (ownerN (C1.map R1.idOf) (gkeyT s) = (k1 : Int) ∧ k1 < n1 ∧ ownerN (C2.map R2.idOf) (gkeyT s) = (k2 : Int) ∧ k2 < n2 ∧ s.size ≤ 200 ∧ fidx (fun x => decide (x ∈ C2)) (keepL C1 k1) = -1 ∧ True ∧ True ∧ (∀ x ∈ keepL C2 k2, i64 x) ∧ (keepL C2 k2).length = 3) := ⟨ho1, hk1, ho2, hk2, hs, hfi, trivial, trivial, hKr, hKl⟩
  clear h1 h2 ho1 hk1 ho2 hk2 hs hfi hKr hKl e1 e2 bW
  go_enter Tryz.func66, Tryz.ntmps66
  go_upto_region 1 with fail
  rw [← hW]
  try rw [← hq]
  clear hW hq
  go_wp2_with fail
  refine (keepers_c H1.out.1 s HK.out.1 HK.out.2.1 HK.out.2.2.2.2.1).mono ?_
  rintro e w1 ⟨⟨ka, kc, rfl, hin1⟩, bb1⟩
  replace x0 := cell_grown x0 bb1
  replace x1 := cell_grown x1 bb1
  replace xl := cell_block x0
  replace y0 := cell_grown y0 bb1
  replace y1 := cell_grown y1 bb1
  replace yl := cell_block y0
  have H2 : Hid (CAt w1 R2 C2 g2 c2 d2 n2 b2 ∧ Below w.heap.size w w1 ∧ InIn w1 ka 3 (keepL C1 k1)) := ⟨H1.out.2.1.below bb1, H1.out.2.2.trans (bb1.mono H1.out.2.2.size), hin1⟩
  clear bb1 hin1 H1
  have HF : Hid _ := indexfunc_g ka 3 kc (keepL C1 k1) w1 _ (q + 1) (fun x => decide (x ∈ C2)) H2.out.2.2 (by omega) (fun x W hb => stays_any (q + 1) R2 C2 g2 c2 d2 n2 b2 x W (H2.out.1.below hb) (cell_grown y0 hb) (cell_grown y1 hb)) rfl
  rw [HK.out.2.2.2.2.2.1] at HF
  go_wp2_with fail
  refine Calls.mono HF.out ?_
  clear HF
  rintro e w2 ⟨rfl, bb2⟩
  have H3 : Hid (Below w.heap.size w w2) := H2.out.2.1.trans (bb2.mono H2.out.2.1.size)
  clear bb2 H2 x0 x1 xl y0 y1 yl
  go_wp2
  go_ret
  exact ⟨rfl, H3.out⟩
end Go.Proofs.YtmajlldfiiokoaaGreatDoor

/- rdv.Plan, whoever stays. -/
namespace Go.Proofs.YtmajlldfiiokoaaGreatDoor
open Go.ChangeShapes Go.WideShapes Go.ChangeAt Go.RowKit Go.Deep
set_option linter.unusedVariables false

/-- The moves of one group: from the first keeper that stays. -/
def MvIs2 (R1 R2 : Rg) (C1 C2 : List Int) (n1 n2 : Nat) (s : ByteArray) (M : List Mv) : Prop :=
  ∃ (k1 k2 : Nat) (T : List Int), ownerN (C1.map R1.idOf) (gkeyT s) = (k1 : Int) ∧ k1 < n1 ∧ ownerN (C2.map R2.idOf) (gkeyT s) = (k2 : Int) ∧ k2 < n2 ∧ T.Perm (keepL C2 k2) ∧ T.Pairwise (· ≤ ·) ∧
    M = match (keepL C1 k1).findIdx? (fun x => decide (x ∈ C2)) with | none => [] | some i => movesL s ((keepL C1 k1).getD i 0) (keepL C1 k1) T
theorem MvIs2.len {R1 R2 : Rg} {C1 C2 : List Int} {n1 n2 : Nat} {s : ByteArray} {M : List Mv} (h : MvIs2 R1 R2 C1 C2 n1 n2 s M) (h4 : 4 ≤ C2.length) (hn : n2 = C2.length) : M.length ≤ 3 := by
  obtain ⟨k1, k2, T, _, _, _, hk2, hp, _, rfl⟩ := h
  split
  · simp
  · rename_i i _
    have := movesL_len s ((keepL C1 k1).getD i 0) (keepL C1 k1) T
    rw [hp.length_eq, keepL_len h4 (by omega)] at this
    exact this
theorem moves_m (R1 R2 : Rg) (C1 C2 : List Int) (g1 c1 d1 n1 k1 g2 c2 d2 n2 k2 : Nat) (b1 b2 : Option Addr) (s : ByteArray) (w : World) (h1 : CAt w R1 C1 g1 c1 d1 n1 b1) (h2 : CAt w R2 C2 g2 c2 d2 n2 b2)
    (ho1 : ownerN (C1.map R1.idOf) (gkeyT s) = (k1 : Int)) (hk1 : k1 < n1) (ho2 : ownerN (C2.map R2.idOf) (gkeyT s) = (k2 : Int)) (hk2 : k2 < n2) (hs : s.size ≤ 200) :
    Calls Tryz.prog 66 #[.agg #[.slice (some ⟨g1, 0, none⟩) n1 c1, .slice b1 n1 d1], .agg #[.slice (some ⟨g2, 0, none⟩) n2 c2, .slice b2 n2 d2], .string s] w fun e w' =>
      (∃ v M, e = .returned v ∧ MvIs2 R1 R2 C1 C2 n1 n2 s M ∧ w'.ownsRow w.heap.size 69 3 v M.length (M.flatMap encM)) ∧ Below w.heap.size w w' := by
  cases hf : (keepL C1 k1).findIdx? (fun x => decide (x ∈ C2)) with
  | none =>
    refine (moves_no R1 R2 C1 C2 g1 c1 d1 n1 k1 g2 c2 d2 n2 k2 b1 b2 s w h1 h2 ho1 hk1 ho2 hk2 hs (by unfold fidx; rw [hf])).mono ?_
    rintro e w' ⟨rfl, hb⟩
    have h3 : ∀ x ∈ keepL C2 k2, i64 x := fun x hx => by
      have := h2.rng x (keepL_sub (by rw [h2.len]; exact hk2) hx); unfold i64; omega
    refine ⟨⟨_, [], rfl, ⟨k1, k2, (keepL C2 k2).mergeSort (fun a b => decide (a ≤ b)), ho1, hk1, ho2, hk2, List.mergeSort_perm _ _, ?_, by rw [hf]⟩, World.ownsRow_nil _ _ _ _⟩, hb⟩
    have := List.pairwise_mergeSort (le := fun a b : Int => decide (a ≤ b)) (fun a b c h1 h2 => by simp at *; omega) (fun a b => by simp; omega) (keepL C2 k2)
    exact this.imp (fun h => by simpa using h)
  | some i =>
    have hi : i < 3 := by
      obtain ⟨hi, _⟩ := List.findIdx?_eq_some_iff_getElem.1 hf
      rw [keepL_len (by rw [h1.len]; exact h1.n4) (by rw [h1.len]; exact hk1)] at hi
      exact hi
    refine (moves_g R1 R2 C1 C2 g1 c1 d1 n1 k1 g2 c2 d2 n2 k2 b1 b2 s w h1 h2 ho1 hk1 ho2 hk2 hs i hi (by unfold fidx; rw [hf])).mono ?_
    rintro e w' ⟨⟨v, T, rfl, hp, hst, hrow⟩, hb⟩
    exact ⟨⟨v, _, rfl, ⟨k1, k2, T, ho1, hk1, ho2, hk2, hp, hst, by rw [hf]⟩, hrow⟩, hb⟩

set_option maxRecDepth 100000 in
set_option maxHeartbeats 4000000 in
theorem plan_g (R1 R2 : Rg) (C1 C2 : List Int) (g1 c1 d1 n1 g2 c2 d2 n2 : Nat) (b1 b2 : Option Addr) (na : Option Addr) (nn nc : Nat) (L : List ByteArray) (w : World) (h1 : CAt w R1 C1 g1 c1 d1 n1 b1) (h2 : CAt w R2 C2 g2 c2 d2 n2 b2) (hN : StrIn w na nn L) (hnn : nn ≤ 1000) (hsz : ∀ s ∈ L, s.size ≤ 200) :
    Calls Tryz.prog 26 #[.agg #[.slice (some ⟨g1, 0, none⟩) n1 c1, .slice b1 n1 d1], .agg #[.slice (some ⟨g2, 0, none⟩) n2 c2, .slice b2 n2 d2], .slice na nn nc] w fun e w' =>
      (∃ v F, e = .returned v ∧ (∀ j, j < (onceS (sortS L)).length → MvIs2 R1 R2 C1 C2 n1 n2 ((onceS (sortS L)).getD j ByteArray.empty) (F j)) ∧ w'.ownsRow w.heap.size 69 3 v (catM F (onceS (sortS L)).length).length ((catM F (onceS (sortS L)).length).flatMap encM)) ∧ Below w.heap.size w w' := by
  obtain ⟨i0, hif, hz0, hz1, hz2⟩ := info_parts Tryz.infoMv
  obtain ⟨q, hq⟩ : ∃ q, q = w.heap.size := ⟨_, rfl⟩
  obtain ⟨W, hW⟩ : ∃ W, W = (w.alloc (.cells #[.slice (some ⟨g1, 0, none⟩) n1 c1, .slice b1 n1 d1] 50)).alloc (.cells #[.slice (some ⟨g2, 0, none⟩) n2 c2, .slice b2 n2 d2] 50) := ⟨_, rfl⟩
  have e1 : Below w.heap.size w (w.alloc (.cells #[.slice (some ⟨g1, 0, none⟩) n1 c1, .slice b1 n1 d1] 50)) := below_one _ _
  have e2 : Below (w.alloc (.cells #[.slice (some ⟨g1, 0, none⟩) n1 c1, .slice b1 n1 d1] 50)).heap.size (w.alloc (.cells #[.slice (some ⟨g1, 0, none⟩) n1 c1, .slice b1 n1 d1] 50)) W := by rw [hW]; exact below_one _ _
  have bW : Below w.heap.size w W := e1.trans (e2.mono e1.size)
  have x0 : W.cell? ⟨q, 0, none⟩ = some (.slice (some ⟨g1, 0, none⟩) n1 c1) := cell_grown (by rw [hq]; exact World.cell?_alloc_new ..) e2
  have x1 : W.cell? ⟨q, 1, none⟩ = some (.slice b1 n1 d1) := cell_grown (by rw [hq]; simp) e2
  have y0 : W.cell? ⟨q + 1, 0, none⟩ = some (.slice (some ⟨g2, 0, none⟩) n2 c2) := by rw [hW, show q + 1 = (w.alloc (.cells #[.slice (some ⟨g1, 0, none⟩) n1 c1, .slice b1 n1 d1] 50)).heap.size by rw [hq]; simp]; exact World.cell?_alloc_new ..
  have y1 : W.cell? ⟨q + 1, 1, none⟩ = some (.slice b2 n2 d2) := by rw [hW, hq]; simp
  have hNW : StrIn W na nn L := strin_below hN bW
  have H1 : Hid (CAt W R1 C1 g1 c1 d1 n1 b1 ∧ CAt W R2 C2 g2 c2 d2 n2 b2 ∧ Below w.heap.size w W ∧ StrIn W na nn L) := ⟨h1.below bW, h2.below bW, bW, hNW⟩
  have HC : Hid (W.cell? ⟨q, 0, none⟩ = some (.slice (some ⟨g1, 0, none⟩) n1 c1) ∧ W.cell? ⟨q, 1, none⟩ = some (.slice b1 n1 d1) ∧ W.cell? ⟨q + 1, 0, none⟩ = some (.slice (some ⟨g2, 0, none⟩) n2 c2) ∧ W.cell? ⟨q + 1, 1, none⟩ = some (.slice b2 n2 d2)) := ⟨x0, x1, y0, y1⟩
  obtain ⟨N, hNe⟩ : ∃ N, N = onceS (sortS L) := ⟨_, rfl⟩
  have hNl : N.length ≤ nn := by rw [hNe]; have := onceS_len (sortS L); rw [(sortS_perm L).length_eq, hN.1] at this; exact this
  have HS : Hid (N = onceS (sortS L) ∧ (∀ s ∈ N, s.size ≤ 200)) := by
    have hsub : ∀ s ∈ N, s ∈ L := fun s hs => by rw [hNe] at hs; exact (sortS_perm L).mem_iff.1 (onceS_mem _ s hs)
    exact ⟨hNe, fun s hs => hsz s (hsub s hs)⟩
  have HLn : Hid (L.length = nn) := hN.1
  rw [← hNe]
  clear h1 h2 hN hsz e1 e2 bW hNW hNe x0 x1 y0 y1
  obtain ⟨nN, hnN⟩ : ∃ n, n = N.length := ⟨_, rfl⟩
  rw [← hnN] at hNl ⊢
  have HNN : Hid (nN = N.length) := hnN
  clear hnN
  go_enter Tryz.func26, Tryz.ntmps26
  go_upto_region 1 with fail
  rw [← hW]
  try rw [← hq]
  clear hW hq
  go_wp2_with fail
  refine (values_s na nn nc W).mono ?_
  rintro e w1 ⟨rfl, hw1⟩
  have bb1 : Below W.heap.size W w1 := by rw [hw1]; exact below_one _ _
  have z0 : w1.cell? ⟨W.heap.size, 0, none⟩ = some (.slice na nn nc) := by rw [hw1]; exact World.cell?_alloc_new ..
  have HSO : Hid _ := sorted_s W.heap.size nn (.slice na nn nc) L w1 HLn.out (cell_block z0) z0 (els_ofS (strin_below H1.out.2.2.2 bb1)) (by rw [HLn.out]; omega)
  have HB1 : Hid (Below W.heap.size W w1) := bb1
  clear hw1 z0 bb1
  go_wp2_with fail
  refine Calls.mono HSO.out ?_
  clear HSO
  rintro e w2 ⟨⟨sa, sc, rfl, hrow⟩, bb2⟩
  have HCO : Hid _ := compact_ownS w1.heap.size w2 sa nn sc (sortS L) hrow (by omega)
  have HB2 : Hid (Below W.heap.size W w2 ∧ w1.heap.size ≤ w2.heap.size ∧ W.heap.size ≤ w1.heap.size) := ⟨HB1.out.trans (bb2.mono HB1.out.size), bb2.size, HB1.out.size⟩
  clear hrow bb2
  go_wp2_with fail
  refine Calls.mono HCO.out ?_
  clear HCO
  rintro e w3 ⟨⟨ta, tc, rfl, hstr⟩, bb3⟩
  rw [← HS.out.1, ← HNN.out] at hstr ⊢
  have H3 : Hid (Below W.heap.size W w3 ∧ StrIn w3 ta nN N) := ⟨HB2.out.1.trans (bb3.mono HB2.out.2.2), hstr⟩
  clear hstr bb3 HB1 HB2
  go_wp2
  go_loopg [7, 15] nN (fun kx v st wr => ∃ (j : Nat) (a : Option Addr) (m c : Nat), st = .int .i64 j ∧ v = .slice a m c ∧ j ≤ nN ∧ m ≤ 3 * j ∧ kx = nN - j ∧ Hid (∃ F, (catM F j).length = m ∧ wr.ownsRow w3.heap.size 69 3 (.slice a m c) m ((catM F j).flatMap encM) ∧ Below w3.heap.size w3 wr ∧ ∀ i, i < j → MvIs2 R1 R2 C1 C2 n1 n2 (N.getD i ByteArray.empty) (F i)))
  case atStart => exact ⟨0, none, 0, 0, rfl, rfl, by omega, by omega, rfl, ⟨fun _ => [], rfl, World.ownsRow_nil _ _ _ _, Below.refl _ _, fun i hi => absurd hi (Nat.not_lt_zero _)⟩⟩
  case round =>
    obtain ⟨j, a, m, c, rfl, rfl, hj, hm, rfl, HB⟩ := hrel
    obtain ⟨F, hF1, hF2, hF3, hF4⟩ := HB.out
    have HF : Hid ((catM F j).length = m ∧ wr.ownsRow w3.heap.size 69 3 (.slice a m c) m ((catM F j).flatMap encM) ∧ Below w3.heap.size w3 wr ∧ ∀ i, i < j → MvIs2 R1 R2 C1 C2 n1 n2 (N.getD i ByteArray.empty) (F i)) := ⟨hF1, hF2, hF3, hF4⟩
    clear HB hF1 hF2 hF3 hF4
    have HBW : Hid (Below W.heap.size W wr) := H3.out.1.trans (HF.out.2.2.1.mono H3.out.1.size)
    by_cases hlt : j < nN
    · have hltI : (j : Int) < (nN : Int) := by omega
      have hsi := (strin_below H3.out.2 HF.out.2.2.1)
      obtain ⟨tb, to', hta, htl, htc⟩ := hsi.2.resolve_left (by omega)
      subst hta
      have htj := htc j hlt
      have hmem : N.getD j ByteArray.empty ∈ N := by rw [List.getD_eq_getElem?_getD, List.getElem?_eq_getElem (by rw [← HNN.out]; exact hlt)]; simp
      obtain ⟨s, hs⟩ : ∃ s, s = N.getD j ByteArray.empty := ⟨_, rfl⟩
      rw [← hs] at htj hmem
      have HSJ : Hid (s = N.getD j ByteArray.empty ∧ s.size ≤ 200) := ⟨hs, HS.out.2 s hmem⟩
      obtain ⟨k1, hk1, hk1n⟩ := (H1.out.1).own s
      obtain ⟨k2, hk2, hk2n⟩ := (H1.out.2.1).own s
      have HMC : Hid _ := moves_m R1 R2 C1 C2 g1 c1 d1 n1 k1 g2 c2 d2 n2 k2 b1 b2 s wr (H1.out.1.below HBW.out) (H1.out.2.1.below HBW.out) hk1 hk1n hk2 hk2n HSJ.out.2
      have HKK : Hid (ownerN (C1.map R1.idOf) (gkeyT s) = (k1 : Int) ∧ k1 < n1 ∧ ownerN (C2.map R2.idOf) (gkeyT s) = (k2 : Int) ∧ k2 < n2) := ⟨hk1, hk1n, hk2, hk2n⟩
      have f0 := cell_grown HC.out.1 HBW.out
      have f1 := cell_grown HC.out.2.1 HBW.out
      have f2 := cell_grown HC.out.2.2.1 HBW.out
      have f3 := cell_grown HC.out.2.2.2 HBW.out
      have fl := cell_block f0
      have fk := cell_block f2
      clear hsi htc hs hmem hk1 hk1n hk2 hk2n
      go_wp2_with fail
      refine Calls.mono HMC.out ?_
      clear HMC f0 f1 f2 f3 fl fk htj htl
      rintro e w5 ⟨⟨v5, M, rfl, hMI, hrow5⟩, b5⟩
      have hMl : M.length ≤ 3 := hMI.len (by rw [H1.out.2.1.len]; exact H1.out.2.1.n4) H1.out.2.1.len.symm
      obtain ⟨ma, mc, rfl⟩ : ∃ ma mc, v5 = .slice ma M.length mc := by
        rcases hrow5.2 with ⟨rfl, e⟩ | ⟨g, cap, cur, hv, _⟩
        · exact ⟨none, 0, by rw [e]⟩
        · exact ⟨_, _, hv⟩
      obtain ⟨ml, hml⟩ : ∃ k, k = M.length := ⟨_, rfl⟩
      rw [← hml] at hrow5 hMl ⊢
      have HM : Hid (ml = M.length ∧ MvIs2 R1 R2 C1 C2 n1 n2 (N.getD j ByteArray.empty) M) := ⟨hml, by rw [← HSJ.out.1]; exact hMI⟩
      have HSR : Hid (Src Tryz.prog 3 63 (.slice ma ml mc) ml (M.flatMap encM) w5) := src_ownM hrow5
      have HA : Hid (w5.ownsRow w3.heap.size 69 3 (.slice a m c) m ((catM F j).flatMap encM)) := row_at HF.out.2.1 (fun z hz => b5.block _ (World.ownsRow.lt HF.out.2.1 z hz).2)
      have HB5 : Hid (Below w3.heap.size w3 w5) := HF.out.2.2.1.trans (b5.mono HF.out.2.2.1.size)
      have HSz : Hid (w3.heap.size ≤ w5.heap.size) := HB5.out.size
      clear hMI hml hrow5 b5 HKK
      go_wp2_with (at_builtin; go_loud (refine wpList_own_append3 _ rfl _ _ 63 63 rfl w3.heap.size 69 i0 _ 32 Tryz.underlying63 hif hz0 hz1 hz2 rfl _ _ _ rfl HA.out _ ml _ rfl HSR.out (by unfold maxLen; omega) (by omega) (by have := HSz.out; simp; omega) ?_))
      intro v' w8 ha
      obtain ⟨x8, k8, rfl⟩ := ha.shape
      have H8 : Hid (∃ F', (catM F' (j + 1)).length = m + ml ∧ w8.ownsRow w3.heap.size 69 3 (.slice x8 (m + ml) k8) (m + ml) ((catM F' (j + 1)).flatMap encM) ∧ Below w3.heap.size w3 w8 ∧ ∀ i, i < j + 1 → MvIs2 R1 R2 C1 C2 n1 n2 (N.getD i ByteArray.empty) (F' i)) := by
        refine ⟨fun i => if i = j then M else F i, ?_, ?_, HB5.out.grown ha.grown HB5.out.size (fun k hk => (World.ownsRow.lt HA.out k hk).1), fun i hi => ?_⟩
        · rw [catM_upd, List.length_append, HF.out.1, HM.out.1]
        · rw [catM_upd, List.flatMap_append]; exact ha.row
        · by_cases e : i = j
          · subst e; simp only [if_true]; exact HM.out.2
          · simp only [if_neg e]; exact HF.out.2.2.2 i (by omega)
      clear ha HA HSR HSz
      go_wp2
      go_roundg (nN - (j + 1))
      case measure => omega
      case rel => exact ⟨j + 1, x8, m + ml, k8, by go_num, rfl, by omega, by omega, rfl, H8⟩
    · obtain rfl : j = nN := by omega
      go_wp2
      go_ret
      have hb := H1.out.2.2.1.trans (HBW.out.mono H1.out.2.2.1.size)
      refine ⟨⟨_, F, rfl, HF.out.2.2.2, ?_⟩, hb⟩
      rw [HF.out.1]
      exact own_lower HF.out.2.1 (Nat.le_trans H1.out.2.2.1.size H3.out.1.size)
end Go.Proofs.YtmajlldfiiokoaaGreatDoor

/- What is kept between two plans. No program in sight. -/
namespace Go.Proofs.YtmajlldfiiokoaaGreatDoor
open Go.ChangeShapes Go.WideShapes Go.ChangeAt Go.RowKit Go.Deep
set_option linter.unusedVariables false

theorem keys_putC {L : List Core} (h : Asc ltK (L.map Core.key)) (x : Core) : (putC L x).map Core.key = if hasK (L.map Core.key) x.key then L.map Core.key else putIn ltK (L.map Core.key) x.key := by
  unfold putC putIn
  cases hh : hasK (L.map Core.key) x.key with
  | true =>
    have hit := (lb_hit (ByteArray.empty, (0 : Int)) linK _ h x.key).2 ((hasK_iff _ _).1 hh)
    simp only [if_true]
    rw [List.map_set, cleanC_key]
    generalize lb ltK (L.map Core.key) x.key = k at hit
    apply List.ext_getElem
    · simp
    · intro i h1 h2
      rw [List.getElem_set]
      split
      · rename_i e
        subst e
        have := hit.2
        rw [List.getD_eq_getElem?_getD, List.getElem?_eq_getElem hit.1] at this
        exact this.symm
      · rfl
  | false =>
    simp only [Bool.false_eq_true, if_false]
    rw [List.map_append, List.map_append, List.map_take, List.map_drop, List.map_singleton, cleanC_key]
theorem asc_putC {L : List Core} (h : Asc ltK (L.map Core.key)) (x : Core) : Asc ltK ((putC L x).map Core.key) := by
  rw [keys_putC h]
  cases hh : hasK (L.map Core.key) x.key with
  | true => simpa using h
  | false =>
    simp only [Bool.false_eq_true, if_false]
    exact asc_putIn linK _ h _ (fun q => by have := (hasK_iff _ _).2 q; rw [hh] at this; cases this)
/-- Does a member have a wish of a group and a child? -/
def HasQ (A : Int → List Core) (n : Int) (q : ByteArray × Int) : Prop := ∃ z ∈ A n, z.key = q
/-- Each wish takes all. -/
def AllAny (A : Int → List Core) : Prop := ∀ n, ∀ z ∈ A n, z.any = true ∧ z.fs = []
theorem cleanC_any {x : Core} (h : x.any = true) : (cleanC x).any = true ∧ (cleanC x).fs = [] := by
  unfold cleanC
  rw [h]
  simp [cleanW, joinE]
/-- A put keeps what is right. -/
structure Okay (A : Int → List Core) (Ks : List (ByteArray × Int)) : Prop where
  asc : AscA A
  keys : KeysIn A Ks
  any : AllAny A
theorem Okay.mono {A : Int → List Core} {Ks Ks' : List (ByteArray × Int)} (h : Okay A Ks) (hs : ∀ k ∈ Ks, k ∈ Ks') : Okay A Ks' := ⟨h.asc, fun n z hz => hs _ (h.keys n z hz), h.any⟩
theorem Okay.put {A : Int → List Core} {Ks : List (ByteArray × Int)} (h : Okay A Ks) (n : Int) (x : Core) (hx : x.key ∈ Ks) (ha : x.any = true) : Okay (upd A n (putC (A n) x)) Ks := by
  refine ⟨fun k => ?_, h.keys.put h.asc n x hx, fun k z hz => ?_⟩
  · by_cases e : k = n
    · subst e; simp only [upd, if_true]; exact asc_putC (h.asc k) x
    · simp only [upd, if_neg e]; exact h.asc k
  · by_cases e : k = n
    · subst e
      simp only [upd, if_true] at hz
      rcases (mem_putC (h.asc k) x z).1 hz with rfl | q
      · exact cleanC_any ha
      · exact h.any k z q.1
    · simp only [upd, if_neg e] at hz; exact h.any k z hz
theorem HasQ.put {A : Int → List Core} (h : AscA A) (n : Int) (x : Core) {m : Int} {q : ByteArray × Int} (hq : HasQ A m q) : HasQ (upd A n (putC (A n) x)) m q := by
  obtain ⟨z, hz, he⟩ := hq
  by_cases e : m = n
  · subst e
    by_cases hk : z.key = x.key
    · refine ⟨cleanC x, ?_, ?_⟩
      · simp only [upd, if_true]; exact (mem_putC (h m) x _).2 (.inl rfl)
      · rw [cleanC_key, ← hk]; exact he
    · refine ⟨z, ?_, he⟩
      simp only [upd, if_true]; exact (mem_putC (h m) x _).2 (.inr ⟨hz, hk⟩)
  · exact ⟨z, by simp only [upd, if_neg e]; exact hz, he⟩
theorem HasQ.here {A : Int → List Core} (h : AscA A) (n : Int) (x : Core) : HasQ (upd A n (putC (A n) x)) n x.key :=
  ⟨cleanC x, by simp only [upd, if_true]; exact (mem_putC (h n) x _).2 (.inl rfl), cleanC_key x⟩

theorem puts_okay {Ks : List (ByteArray × Int)} (x : Core) (hx : x.key ∈ Ks) (ha : x.any = true) : ∀ (K : List Int) {A : Int → List Core}, Okay A Ks → Okay (putsA A K x) Ks ∧ (∀ m q, HasQ A m q → HasQ (putsA A K x) m q) ∧ ∀ n ∈ K, HasQ (putsA A K x) n x.key
  | [], A, h => ⟨h, fun _ _ q => q, fun n hn => by cases hn⟩
  | k :: K, A, h => by
    have h1 := h.put k x hx ha
    obtain ⟨r1, r2, r3⟩ := puts_okay x hx ha K h1
    refine ⟨r1, fun m q hq => r2 m q (hq.put h.asc k x), fun n hn => ?_⟩
    rcases List.mem_cons.1 hn with rfl | hn
    · exact r2 _ _ (HasQ.here h.asc n x)
    · exact r3 n hn
theorem putL_okay {Ks : List (ByteArray × Int)} (n : Int) : ∀ (L : List Core) {A : Int → List Core}, Okay A Ks → (∀ x ∈ L, x.key ∈ Ks ∧ x.any = true) → Okay (putL A n L) Ks ∧ (∀ m q, HasQ A m q → HasQ (putL A n L) m q) ∧ ∀ x ∈ L, HasQ (putL A n L) n x.key
  | [], A, h, _ => ⟨h, fun _ _ q => q, fun n hn => by cases hn⟩
  | x :: L, A, h, hL => by
    have hx := hL x (by simp)
    have h1 := h.put n x hx.1 hx.2
    obtain ⟨r1, r2, r3⟩ := putL_okay n L h1 (fun y hy => hL y (by simp [hy]))
    refine ⟨r1, fun m q hq => r2 m q (hq.put h.asc n x), fun y hy => ?_⟩
    rcases List.mem_cons.1 hy with rfl | hy
    · exact r2 _ _ (HasQ.here h.asc n y)
    · exact r3 y hy
theorem move_okay {Ks : List (ByteArray × Int)} {A : Int → List Core} (h : Okay A Ks) (m : ByteArray × Int × Int) : Okay (moveA A m) Ks ∧ (∀ k q, HasQ A k q → HasQ (moveA A m) k q) ∧ ∀ c, HasQ A m.2.1 (m.1, c) → HasQ (moveA A m) m.2.2 (m.1, c) := by
  obtain ⟨r1, r2, r3⟩ := putL_okay m.2.2 ((A m.2.1).filter (ofC m.1)) h (fun x hx => ⟨h.keys _ x (List.mem_filter.1 hx).1, (h.any _ x (List.mem_filter.1 hx).1).1⟩)
  refine ⟨r1, r2, fun c hq => ?_⟩
  obtain ⟨z, hz, he⟩ := hq
  have hg : z.gr = m.1 := congrArg Prod.fst he
  have := r3 z (List.mem_filter.2 ⟨hz, (ofC_iff m.1 z).2 hg⟩)
  rw [he] at this
  exact this
theorem moves_okay {Ks : List (ByteArray × Int)} : ∀ (L : List (ByteArray × Int × Int)) {A : Int → List Core}, Okay A Ks → Okay (movesA A L) Ks ∧ (∀ k q, HasQ A k q → HasQ (movesA A L) k q) ∧ ∀ m ∈ L, ∀ c, HasQ A m.2.1 (m.1, c) → HasQ (movesA A L) m.2.2 (m.1, c)
  | [], A, h => ⟨h, fun _ _ q => q, fun n hn => by cases hn⟩
  | m :: L, A, h => by
    obtain ⟨s1, s2, s3⟩ := move_okay h m
    obtain ⟨r1, r2, r3⟩ := moves_okay L s1
    refine ⟨r1, fun k q hq => r2 k q (s2 k q hq), fun y hy c hq => ?_⟩
    rcases List.mem_cons.1 hy with rfl | hy
    · exact r2 _ _ (s3 c hq)
    · exact r3 y hy c (s2 _ _ hq)

/-- The keepers of a group, on a circle. -/
def keepF (R : Rg) (C : List Int) (s : ByteArray) : List Int := keepL C (ownerN (C.map R.idOf) (gkeyT s)).toNat
theorem keepF_of {R : Rg} {C : List Int} {s : ByteArray} {k : Nat} (h : ownerN (C.map R.idOf) (gkeyT s) = (k : Int)) : keepF R C s = keepL C k := by
  unfold keepF; rw [h]; rfl
/-- Each member forgets what it doesn't keep. -/
def trimA (R : Rg) (C : List Int) (A : Int → List Core) : Int → List Core := fun n => (A n).filter (fun z => decide (n ∈ keepF R C z.gr))
theorem trim_okay {R : Rg} {C : List Int} {Ks : List (ByteArray × Int)} {A : Int → List Core} (h : Okay A Ks) : Okay (trimA R C A) Ks ∧ ∀ n q, n ∈ keepF R C q.1 → HasQ A n q → HasQ (trimA R C A) n q := by
  refine ⟨⟨fun n => (h.asc n).sublist ((List.filter_sublist).map _), fun n z hz => h.keys n z (List.mem_filter.1 hz).1, fun n z hz => h.any n z (List.mem_filter.1 hz).1⟩, fun n q hn hq => ?_⟩
  obtain ⟨z, hz, he⟩ := hq
  refine ⟨z, List.mem_filter.2 ⟨hz, ?_⟩, he⟩
  have : z.gr = q.1 := congrArg Prod.fst he
  rw [this]
  simpa using hn

/-- Who of a circle went since. -/
structure Trk (Cw : List Int) (R : Rg) (G : List Int) : Prop where
  pl : ∀ n ∈ Cw, (R.pl n).isSome = true
  out : ∀ n ∈ Cw, R.lives n = false → n ∈ G
theorem Trk.start {R : Rg} {C : List Int} (hi : Inv R) (hc : Cir R C) : Trk C R [] :=
  ⟨fun n hn => hi.pl n ((hc.mem n).1 hn), fun n hn h => by rw [(hc.mem n).1 hn] at h; cases h⟩
theorem Trk.join {Cw : List Int} {R : Rg} {G : List Int} (h : Trk Cw R G) (n id via : Int) : Trk Cw (R.join n id via) G ∧ ∀ x ∈ Cw, (R.join n id via).lives x = true → R.lives x = true := by
  unfold Rg.join
  by_cases q : R.joinC n id via = 0
  · obtain ⟨_, _, hp⟩ := joinC_zero q
    have hne : ∀ x ∈ Cw, x ≠ n := fun x hx e => by have := h.pl x hx; rw [e, hp] at this; cases this
    rw [if_pos q]
    refine ⟨⟨fun x hx => by rw [pl_joined, if_neg (hne x hx)]; exact h.pl x hx, fun x hx hl => ?_⟩, fun x hx hl => ?_⟩
    · rw [lives_joined, if_neg (hne x hx)] at hl; exact h.out x hx hl
    · rw [lives_joined, if_neg (hne x hx)] at hl; exact hl
  · rw [if_neg q]; exact ⟨h, fun _ _ h => h⟩
theorem Trk.fail {Cw : List Int} {R : Rg} {G : List Int} (h : Trk Cw R G) {n : Int} (q : R.failC n = 0) : Trk Cw (R.fail n) (n :: G) ∧ ∀ x, (R.fail n).lives x = true → R.lives x = true ∧ x ≠ n := by
  unfold Rg.fail
  rw [if_pos q]
  refine ⟨⟨fun x hx => h.pl x hx, fun x hx hl => ?_⟩, fun x hl => ?_⟩
  · rw [lives_delK] at hl
    by_cases e : x = n
    · simp [e]
    · rw [if_neg e] at hl; exact List.mem_cons_of_mem _ (h.out x hx hl)
  · rw [lives_delK] at hl
    by_cases e : x = n
    · rw [if_pos e] at hl; cases hl
    · rw [if_neg e] at hl; exact ⟨hl, e⟩
theorem Trk.round {Cw : List Int} {R : Rg} {G : List Int} (h : Trk Cw R G) (hi : Inv R) : Trk Cw R.round G ∧ ∀ x, R.round.lives x = R.lives x := by
  refine ⟨⟨fun x hx => by rw [(round_alike R).2]; exact h.pl x hx, fun x hx hl => ?_⟩, fun x => lives_round hi x⟩
  rw [lives_round hi] at hl; exact h.out x hx hl

/-- What holds between two calls: behind the last plan's circle (Rw, Cw), those of G went; the wishes of P were put. -/
structure Kpt (Rw : Rg) (Cw : List Int) (R : Rg) (G : List Int) (A : Int → List Core) (P : List (ByteArray × Int)) : Prop where
  trk : Trk Cw R G
  ok : Okay A P
  has : ∀ q ∈ P, ∀ n ∈ keepF Rw Cw q.1, R.lives n = true → HasQ A n q
section
variable {Rw R : Rg} {Cw G : List Int} {A : Int → List Core} {P : List (ByteArray × Int)}
theorem keepF_sub {R : Rg} {C : List Int} {s : ByteArray} (h4 : 0 < C.length) {x : Int} (hx : x ∈ keepF R C s) : x ∈ C := by
  obtain ⟨k, h1, h2⟩ := owner_rng (C.map R.idOf) (gkeyT s) (by simpa using h4)
  rw [keepF_of h1] at hx
  rw [List.length_map] at h2
  exact keepL_sub h2 hx
theorem Kpt.join (h : Kpt Rw Cw R G A P) (h4 : 0 < Cw.length) (n id via : Int) : Kpt Rw Cw (R.join n id via) G A P := by
  obtain ⟨t1, t2⟩ := h.trk.join n id via
  exact ⟨t1, h.ok, fun q hq x hx hl => h.has q hq x hx (t2 x (keepF_sub h4 hx) hl)⟩
theorem Kpt.round (h : Kpt Rw Cw R G A P) (hi : Inv R) : Kpt Rw Cw R.round G A P := by
  obtain ⟨t1, t2⟩ := h.trk.round hi
  exact ⟨t1, h.ok, fun q hq x hx hl => h.has q hq x hx (by rw [← t2 x]; exact hl)⟩
theorem Kpt.fail (h : Kpt Rw Cw R G A P) {n : Int} (q : R.failC n = 0) : Kpt Rw Cw (R.fail n) (n :: G) (upd A n []) P := by
  obtain ⟨t1, t2⟩ := h.trk.fail q
  refine ⟨t1, ⟨fun k => ?_, fun k z hz => ?_, fun k z hz => ?_⟩, fun p hp x hx hl => ?_⟩
  · by_cases e : k = n
    · simp only [upd, if_pos e]; exact List.Pairwise.nil
    · simp only [upd, if_neg e]; exact h.ok.asc k
  · by_cases e : k = n
    · simp only [upd, if_pos e] at hz; cases hz
    · simp only [upd, if_neg e] at hz; exact h.ok.keys k z hz
  · by_cases e : k = n
    · simp only [upd, if_pos e] at hz; cases hz
    · simp only [upd, if_neg e] at hz; exact h.ok.any k z hz
  · obtain ⟨l1, l2⟩ := t2 x hl
    obtain ⟨z, hz, he⟩ := h.has p hp x hx l1
    exact ⟨z, by simp only [upd, if_neg l2]; exact hz, he⟩
theorem Kpt.put (h : Kpt Rw Cw R G A P) (x : Core) (ha : x.any = true) : Kpt Rw Cw R G (putsA A (keepF Rw Cw x.gr) x) (P ++ [x.key]) := by
  obtain ⟨r1, r2, r3⟩ := puts_okay x (Ks := P ++ [x.key]) (by simp) ha (keepF Rw Cw x.gr) (h.ok.mono (fun k hk => by simp [hk]))
  refine ⟨h.trk, r1, fun q hq n hn hl => ?_⟩
  rcases List.mem_append.1 hq with q1 | q1
  · exact r2 n q (h.has q q1 n hn hl)
  · rw [List.mem_singleton.1 q1] at hn ⊢
    exact r3 n hn
theorem nodup_three {K : List Int} (h : K.Nodup) (h3 : K.length = 3) {G : List Int} (hG : G.length ≤ 2) : ∃ x ∈ K, x ∉ G := by
  apply Classical.byContradiction
  intro hn
  have hs : ∀ x ∈ K, x ∈ G := fun x hx => Classical.byContradiction (fun q => hn ⟨x, hx, q⟩)
  have := h.length_le_of_subset (l₂ := G) hs
  omega
/-- Moves of a plan: each group's are there. -/
def PlanIs (Rw R : Rg) (Cw C : List Int) (S : List ByteArray) (L : List (ByteArray × Int × Int)) : Prop :=
  ∀ s ∈ S, ∃ M, MvIs2 Rw R Cw C Cw.length C.length s M ∧ ∀ m ∈ M, m ∈ L
theorem Kpt.plan (h : Kpt Rw Cw R G A P) (hG : G.length ≤ 2) {C : List Int} {L : List (ByteArray × Int × Int)} (hcw : Cir Rw Cw) (h4 : 4 ≤ Cw.length) (hi : Inv R) (hc : Cir R C) (hL : PlanIs Rw R Cw C (P.map Prod.fst) L) :
    Kpt R C R [] (trimA R C (movesA A L)) P ∧ ∀ q ∈ P, ∀ n ∈ keepF R C q.1, HasQ (trimA R C (movesA A L)) n q := by
  obtain ⟨s1, s2, s3⟩ := moves_okay L h.ok
  obtain ⟨t1, t2⟩ := trim_okay (R := R) (C := C) s1
  have hall : ∀ q ∈ P, ∀ n ∈ keepF R C q.1, HasQ (trimA R C (movesA A L)) n q := fun q hq n hn => by
    refine t2 n q hn ?_
    obtain ⟨M, ⟨k1, k2, T, e1, hk1, e2, hk2, hp, _, hM⟩, hML⟩ := hL q.1 (List.mem_map_of_mem hq)
    have e3 := keepF_of e1
    have e4 := keepF_of e2
    have hlive : ∀ x, x ∈ C ↔ R.lives x = true := hc.mem
    have hnC : n ∈ C := by rw [e4] at hn; exact keepL_sub hk2 hn
    by_cases hin : n ∈ keepL Cw k1
    · exact s2 n q (h.has q hq n (by rw [e3]; exact hin) ((hlive n).1 hnC))
    · have hnd : (keepL Cw k1).Nodup := keepL_nodup (hcw.rise.imp (fun h e => by rw [e] at h; omega)) hk1
      obtain ⟨x, hx1, hx2⟩ := nodup_three hnd (keepL_len h4 hk1) hG
      have hxl : R.lives x = true := by
        cases hl : R.lives x with
        | true => rfl
        | false => exact absurd (h.trk.out x (keepL_sub hk1 hx1) hl) hx2
      cases hf : (keepL Cw k1).findIdx? (fun x => decide (x ∈ C)) with
      | none =>
        exfalso
        rw [List.findIdx?_eq_none_iff] at hf
        have := hf x hx1
        simp [(hlive x).2 hxl] at this
      | some i =>
        rw [hf] at hM
        obtain ⟨hi', hpi, _⟩ := List.findIdx?_eq_some_iff_getElem.1 hf
        have eo : (keepL Cw k1).getD i 0 = (keepL Cw k1)[i] := by rw [List.getD_eq_getElem?_getD, List.getElem?_eq_getElem hi']; rfl
        simp only at hM
        rw [eo] at hM
        have hoC : (keepL Cw k1)[i] ∈ C := by simpa using hpi
        have hmem : (q.1, (keepL Cw k1)[i], n) ∈ M := by
          rw [hM]
          unfold movesL
          refine List.mem_map.2 ⟨n, List.mem_filter.2 ⟨?_, by simpa using hin⟩, rfl⟩
          rw [e4] at hn
          exact hp.mem_iff.2 hn
        have hhas := h.has q hq ((keepL Cw k1)[i]) (by rw [e3]; exact List.getElem_mem hi') ((hlive _).1 hoC)
        have := s3 _ (hML _ hmem) q.2 hhas
        exact this
  exact ⟨⟨Trk.start hi hc, t1, fun q hq n hn _ => hall q hq n hn⟩, hall⟩
end
/-- What stands in a list stands in it once. -/
theorem onceS_all (l : List ByteArray) : ∀ x ∈ l, x ∈ onceS l := fun x hx => by
  unfold onceS Lib.compact Lib.compactUpTo
  have hb : bytesL x ∈ l.map bytesL := List.mem_map_of_mem hx
  generalize l.map bytesL = d at hb
  obtain ⟨j, hj, he⟩ := List.getElem_of_mem hb
  have key : ∀ (j : Nat) (hj : j < d.length), ∃ i, i < d.length ∧ Lib.keeps d.toArray i = true ∧ d.toArray[i]! = d[j] := by
    intro j
    induction j with
    | zero =>
      intro hj
      exact ⟨0, hj, by simp [Lib.keeps], by simp [hj]⟩
    | succ j ih =>
      intro hj
      by_cases h : d.toArray[j + 1]! = d.toArray[j]!
      · obtain ⟨i, h1, h2, h3⟩ := ih (by omega)
        refine ⟨i, h1, h2, h3.trans ?_⟩
        have e1 : d.toArray[j + 1]! = d[j + 1] := by simp [hj]
        have e2 : d.toArray[j]! = d[j] := by simp [show j < d.length by omega]
        rw [← e1, ← e2, h]
      · exact ⟨j + 1, hj, by simp only [Lib.keeps, Nat.add_sub_cancel, decide_eq_true_eq]; exact .inr h, by simp [hj]⟩
  obtain ⟨i, h1, h2, h3⟩ := key j hj
  refine List.mem_map.2 ⟨d.toArray[i]!, List.mem_map.2 ⟨i, List.mem_filter.2 ⟨by simpa using h1, h2⟩, rfl⟩, ?_⟩
  rw [h3, he, of_bytes]
theorem onceS_iff (l : List ByteArray) (x : ByteArray) : x ∈ onceS l ↔ x ∈ l := ⟨onceS_mem l x, onceS_all l x⟩
theorem plan_is {Rw R : Rg} {Cw C : List Int} {S : List ByteArray} {F : Nat → List Mv} {n1 n2 : Nat} (h1 : n1 = Cw.length) (h2 : n2 = C.length) (h : ∀ j, j < (onceS (sortS S)).length → MvIs2 Rw R Cw C n1 n2 ((onceS (sortS S)).getD j ByteArray.empty) (F j)) : PlanIs Rw R Cw C S (catM F (onceS (sortS S)).length) := fun s hs => by
  subst h1 h2
  have hm : s ∈ onceS (sortS S) := onceS_all _ _ ((sortS_perm S).mem_iff.2 hs)
  obtain ⟨j, hj, he⟩ := List.getElem_of_mem hm
  refine ⟨F j, ?_, fun m hm => ?_⟩
  · have := h j hj
    rw [List.getD_eq_getElem?_getD, List.getElem?_eq_getElem hj] at this
    rw [← he]
    exact this
  · unfold catM
    exact List.mem_flatMap.2 ⟨j, by simpa using hj, hm⟩
end Go.Proofs.YtmajlldfiiokoaaGreatDoor

/- The store in memory, by value; whose blocks are its own. -/
namespace Go.Proofs.YtmajlldfiiokoaaGreatDoor
open Go.ChangeShapes Go.WideShapes Go.ChangeAt Go.RowKit Go.Deep
set_option linter.unusedVariables false

/-- What stays: all but the blocks of one's own. -/
structure Fr (w w' : World) (O O' : Nat → Prop) : Prop where
  os : w'.os = w.os
  tape : w'.tape = w.tape
  output : w'.output = w.output
  size : w.heap.size ≤ w'.heap.size
  block : ∀ b, b < w.heap.size → ¬ O b → w'.heap[b]? = w.heap[b]?
  own : ∀ b, O' b → O b ∨ w.heap.size ≤ b
theorem Fr.refl (w : World) (O : Nat → Prop) : Fr w w O O := ⟨rfl, rfl, rfl, Nat.le_refl _, fun _ _ _ => rfl, fun _ h => .inl h⟩
theorem Fr.ofBelow {w w' : World} (h : Below w.heap.size w w') (O : Nat → Prop) : Fr w w' O O := ⟨h.os, h.tape, h.output, h.size, fun b hb _ => h.block b hb, fun _ h => .inl h⟩
theorem Fr.trans {a b c : World} {O O1 O2 : Nat → Prop} (h : Fr a b O O1) (h' : Fr b c O1 O2) : Fr a c O O2 :=
  ⟨h'.os.trans h.os, h'.tape.trans h.tape, h'.output.trans h.output, Nat.le_trans h.size h'.size, fun k hk ho => (h'.block k (Nat.lt_of_lt_of_le hk h.size) (fun q => by
      rcases h.own k q with e | e
      · exact ho e
      · omega)).trans (h.block k hk ho), fun k hk => by
    rcases h'.own k hk with e | e
    · exact h.own k e
    · exact .inr (Nat.le_trans h.size e)⟩
theorem Fr.off {w w' : World} {O O' : Nat → Prop} (h : Fr w w' O O') {b : Nat} (hb : b < w.heap.size) (ho : ¬ O b) : ¬ O' b := fun q => by
  rcases h.own b q with e | e
  · exact ho e
  · omega
theorem Fr.below {w w' : World} {O O' : Nat → Prop} (h : Fr w w' O O') {B : Nat} (hB : B ≤ w.heap.size) (ho : ∀ b, O b → B ≤ b) : Below B w w' :=
  ⟨h.os, h.tape, h.output, h.size, fun b hb => h.block b (by omega) (fun q => by have := ho b q; omega)⟩
theorem Fr.cell {w w' : World} {O O' : Nat → Prop} (h : Fr w w' O O') {p : Addr} {v : Value} (hv : w.cell? p = some v) (ho : ¬ O p.block) : w'.cell? p = some v := (World.cell?_of_block (h.block p.block (cell_block hv) ho)).trans hv

/-- The store: these tables; its own blocks are among O. -/
structure StmR (B : Nat) (w0 w : World) (s g : Nat) (O : Nat → Prop) (R : Int → Option Nat) (V : Int → Value) (X : Int → List Ep) (A : Int → List Core) : Prop where
  st : StI B w0 w s g R V X
  no : ∀ n, R n = none → X n = []
  val : ∀ n, A n = (X n).map Ep.core
  own : ∀ b, (b = s ∨ b = g ∨ ∃ n r, R n = some r ∧ (b = r ∨ (V n).ownBlock = some b)) → O b
  rng : ∀ b, O b → B ≤ b ∧ b < w.heap.size
structure Stm (B : Nat) (w0 w : World) (s g : Nat) (O : Nat → Prop) (A : Int → List Core) : Prop where
  ex : ∃ R V X, StmR B w0 w s g O R V X A
section
variable {B : Nat} {w0 w : World} {s g : Nat} {O : Nat → Prop} {R : Int → Option Nat} {V : Int → Value} {X : Int → List Ep} {A : Int → List Core}
theorem StmR.below {w' : World} (h : StmR B w0 w s g O R V X A) (hb : Below w.heap.size w w') : StmR B w0 w' s g O R V X A :=
  ⟨h.st.below hb, h.no, h.val, h.own, fun b ho => ⟨(h.rng b ho).1, Nat.lt_of_lt_of_le (h.rng b ho).2 hb.size⟩⟩
theorem Stm.below {w' : World} (h : Stm B w0 w s g O A) (hb : Below w.heap.size w w') : Stm B w0 w' s g O A := by
  obtain ⟨R, V, X, h⟩ := h.ex
  exact ⟨R, V, X, h.below hb⟩
theorem Stm.rng (h : Stm B w0 w s g O A) : ∀ b, O b → B ≤ b ∧ b < w.heap.size := by obtain ⟨R, V, X, h⟩ := h.ex; exact h.rng
theorem Stm.lo (h : Stm B w0 w s g O A) : B ≤ w.heap.size := by obtain ⟨R, V, X, h⟩ := h.ex; exact h.st.lo.2.2.2
theorem Stm.bel (h : Stm B w0 w s g O A) : Below B w0 w := by obtain ⟨R, V, X, h⟩ := h.ex; exact h.st.bel
theorem StmR.asc (h : StmR B w0 w s g O R V X A) : AscA A := fun n => by
  rw [h.val n, core_keys]
  cases hr : R n with
  | none => rw [h.no n hr]; exact List.Pairwise.nil
  | some r => exact (h.st.tab n r hr).asc
theorem Stm.asc (h : Stm B w0 w s g O A) : AscA A := by obtain ⟨R, V, X, h⟩ := h.ex; exact h.asc
theorem Stm.new {w2 : World} (w : World) (hw : w2 = (w.alloc (.map #[] 0)).alloc (.cells #[.map (some w.heap.size)] 151)) : Stm w.heap.size w w2 (w.heap.size + 1) w.heap.size (fun b => b = w.heap.size + 1 ∨ b = w.heap.size) (fun _ => []) :=
  ⟨_, _, _, by
    refine ⟨StI.new w hw, fun n _ => rfl, fun n => rfl, fun b hb => ?_, fun b hb => ?_⟩
    · rcases hb with e | e | ⟨n, r, hr, _⟩
      · exact .inl e
      · exact .inr e
      · cases hr
    · have e : w2.heap.size = w.heap.size + 2 := by rw [hw]; simp
      rcases hb with e | e <;> omega⟩
/-- One member's table is written. -/
theorem StmR.upd {n : Int} {r : Nat} {w' : World} {v' : Value} {X' : List Ep} (h : StmR B w0 w s g O R V X A) (hr : R n = some r) (hK : KT w w' r (V n) v') (hT : Tb w' B r v' X') (hX : ∀ x ∈ X', x ∈ X n ∨ ∀ b, x.a = some b → w.heap.size ≤ b.block) :
    StmR B w0 w' s g (fun b => O b ∨ v'.ownBlock = some b) R (Go.Proofs.YtmajlldfiiokoaaGreatDoor.upd V n v') (Go.Proofs.YtmajlldfiiokoaaGreatDoor.upd X n X') (Go.Proofs.YtmajlldfiiokoaaGreatDoor.upd A n (X'.map Ep.core)) ∧ Fr w w' O (fun b => O b ∨ v'.ownBlock = some b) := by
  have ho1 : O r := h.own r (.inr (.inr ⟨n, r, hr, .inl rfl⟩))
  have ho2 : ∀ b, (V n).ownBlock = some b → O b := fun b hb => h.own b (.inr (.inr ⟨n, r, hr, .inr hb⟩))
  have hown : ∀ b, v'.ownBlock = some b → O b ∨ w.heap.size ≤ b := fun b hb => by
    rcases hK.own b hb with q | q
    · exact .inl (ho2 b q)
    · exact .inr q
  refine ⟨⟨h.st.upd hr hK hT hX, fun k hk => ?_, fun k => ?_, fun b hb => ?_, fun b hb => ?_⟩, ⟨hK.os, hK.tape, hK.output, hK.size, fun b hb ho => hK.block b hb (fun e => ho (by rw [e]; exact ho1)) (fun e => ho (ho2 b e)), fun b hb => ?_⟩⟩
  · have : k ≠ n := fun e => by rw [e, hr] at hk; cases hk
    simp only [Go.Proofs.YtmajlldfiiokoaaGreatDoor.upd, if_neg this]; exact h.no k hk
  · by_cases e : k = n
    · simp only [Go.Proofs.YtmajlldfiiokoaaGreatDoor.upd, if_pos e]
    · simp only [Go.Proofs.YtmajlldfiiokoaaGreatDoor.upd, if_neg e]; exact h.val k
  · rcases hb with e | e | ⟨k, q, hk, e⟩
    · exact .inl (h.own b (.inl e))
    · exact .inl (h.own b (.inr (.inl e)))
    · by_cases e2 : k = n
      · subst e2
        simp only [Go.Proofs.YtmajlldfiiokoaaGreatDoor.upd, if_true] at e
        rcases e with e | e
        · exact .inl (h.own b (.inr (.inr ⟨k, q, hk, .inl e⟩)))
        · exact .inr e
      · simp only [Go.Proofs.YtmajlldfiiokoaaGreatDoor.upd, if_neg e2] at e
        exact .inl (h.own b (.inr (.inr ⟨k, q, hk, e⟩)))
  · rcases hb with e | e
    · exact ⟨(h.rng b e).1, Nat.lt_of_lt_of_le (h.rng b e).2 hK.size⟩
    · exact hT.row.lt b e
  · rcases hb with e | e
    · exact .inl e
    · exact hown b e
/-- A member more. -/
theorem StmR.more {n : Int} {r : Nat} {w' : World} {v' : Value} {X' : List Ep} (h : StmR B w0 w s g O R V X A) (hr : R n = none) (hS : StI B w0 w' s g (Go.Proofs.YtmajlldfiiokoaaGreatDoor.upd R n (some r)) (Go.Proofs.YtmajlldfiiokoaaGreatDoor.upd V n v') (Go.Proofs.YtmajlldfiiokoaaGreatDoor.upd X n X')) (hk : Kp w w' g g) (h1 : w.heap.size ≤ r) (h2 : ∀ b, v'.ownBlock = some b → w.heap.size ≤ b) :
    StmR B w0 w' s g (fun b => O b ∨ b = r ∨ v'.ownBlock = some b) (Go.Proofs.YtmajlldfiiokoaaGreatDoor.upd R n (some r)) (Go.Proofs.YtmajlldfiiokoaaGreatDoor.upd V n v') (Go.Proofs.YtmajlldfiiokoaaGreatDoor.upd X n X') (Go.Proofs.YtmajlldfiiokoaaGreatDoor.upd A n (X'.map Ep.core)) ∧ Fr w w' O (fun b => O b ∨ b = r ∨ v'.ownBlock = some b) := by
  have hT := hS.tab n r (by simp [Go.Proofs.YtmajlldfiiokoaaGreatDoor.upd])
  have ev : Go.Proofs.YtmajlldfiiokoaaGreatDoor.upd V n v' n = v' := by simp [Go.Proofs.YtmajlldfiiokoaaGreatDoor.upd]
  rw [ev] at hT
  refine ⟨⟨hS, fun k hk => ?_, fun k => ?_, fun b hb => ?_, fun b hb => ?_⟩, ⟨hk.os, hk.tape, hk.output, hk.size, fun b hb ho => ?_, fun b hb => ?_⟩⟩
  · by_cases e : k = n
    · subst e; simp [Go.Proofs.YtmajlldfiiokoaaGreatDoor.upd] at hk
    · simp only [Go.Proofs.YtmajlldfiiokoaaGreatDoor.upd, if_neg e] at hk ⊢; exact h.no k hk
  · by_cases e : k = n
    · simp only [Go.Proofs.YtmajlldfiiokoaaGreatDoor.upd, if_pos e]
    · simp only [Go.Proofs.YtmajlldfiiokoaaGreatDoor.upd, if_neg e]; exact h.val k
  · rcases hb with e | e | ⟨k, q, hk, e⟩
    · exact .inl (h.own b (.inl e))
    · exact .inl (h.own b (.inr (.inl e)))
    · by_cases e2 : k = n
      · subst e2
        simp only [Go.Proofs.YtmajlldfiiokoaaGreatDoor.upd, if_true] at e hk
        cases hk
        exact .inr e
      · simp only [Go.Proofs.YtmajlldfiiokoaaGreatDoor.upd, if_neg e2] at e hk
        exact .inl (h.own b (.inr (.inr ⟨k, q, hk, e⟩)))
  · rcases hb with e | e | e
    · exact ⟨(h.rng b e).1, Nat.lt_of_lt_of_le (h.rng b e).2 hk.size⟩
    · rw [e]; exact ⟨hT.lo, hT.lt⟩
    · exact hT.row.lt b e
  · have : b ≠ g := fun e => ho (by rw [e]; exact h.own g (.inr (.inl rfl)))
    exact hk.block b hb this this
  · rcases hb with e | e | e
    · exact .inl e
    · exact .inr (by omega)
    · exact .inr (h2 b e)
theorem StmR.glt (h : StmR B w0 w s g O R V X A) : O g ∧ O s := ⟨h.own g (.inr (.inl rfl)), h.own s (.inl rfl)⟩
end

set_option maxRecDepth 100000 in
set_option maxHeartbeats 4000000 in
/-- A wish, at a member that has a table. -/
theorem sput_at {B : Nat} {w0 : World} {s g : Nat} {R : Int → Option Nat} {V : Int → Value} {X : Int → List Ep} (n : Int) (r : Nat) (gr : ByteArray) (c : Int) (fa : Option Addr) (fl fc : Nat) (any : Bool) (till : Int) (fs : List ByteArray) (w : World) (h : StI B w0 w s g R V X) (hn : R n = some r) (hf : StrIn w fa fl fs) (hfl : fl ≤ 100000) (hroom : (X n).length < 400) :
    Calls Tryz.prog 83 #[.pointer (some ⟨s, 0, none⟩), .int .i64 n, .agg #[.string gr, .int .i64 c, .slice fa fl fc, .bool any, .int .i64 till]] w fun e w' =>
      e = .returned .nilIface ∧ ∃ v' x', (x'.key = (gr, c) ∧ x'.till = till ∧ x'.want = cleanW (any, fs)) ∧ Tb w' B r v' (putE (X n) x') ∧ KT w w' r (V n) v' ∧ ∀ b, x'.a = some b → w.heap.size ≤ b.block := by
  obtain ⟨W, hW⟩ : ∃ W, W = w.alloc (.cells #[.string gr, .int .i64 c, .slice fa fl fc, .bool any, .int .i64 till] 89) := ⟨_, rfl⟩
  obtain ⟨q, hq⟩ : ∃ q, q = w.heap.size := ⟨_, rfl⟩
  have bW : Below w.heap.size w W := by rw [hW]; exact below_one _ _
  have hbox : W.heap[q]? = some (.cells #[.string gr, .int .i64 c, .slice fa fl fc, .bool any, .int .i64 till] 89 (0, 0)) := by rw [hW, hq]; exact heap_alloc_new _ _
  have hS := h.below bW
  have HP : Hid _ := put_any B r (V n) (X n) gr c fa fl fc any till fs W (hS.tab n r hn) (strin_below hf bW) hfl hS.lo.2.2.2 (.inr hroom)
  have HB : Hid (Below w.heap.size w W) := bW
  have sc := hS.scell
  have sl := cell_block sc
  have lk := hS.look_at hn
  have y0 : W.cell? ⟨q, 0, none⟩ = some (.string gr) := by simp [World.cell?, hbox]
  have y1 : W.cell? ⟨q, 1, none⟩ = some (.int .i64 c) := by simp [World.cell?, hbox]
  have y2 : W.cell? ⟨q, 2, none⟩ = some (.slice fa fl fc) := by simp [World.cell?, hbox]
  have y3 : W.cell? ⟨q, 3, none⟩ = some (.bool any) := by simp [World.cell?, hbox]
  have y4 : W.cell? ⟨q, 4, none⟩ = some (.int .i64 till) := by simp [World.cell?, hbox]
  have yl := lt_blk hbox
  clear h hS hf hbox bW hn hroom
  go_enter Tryz.func83, Tryz.ntmps83
  go_upto_region 1 with fail
  rw [← hW]
  try rw [← hq]
  clear hW hq
  go_wp2_with fail
  refine Calls.mono HP.out ?_
  clear HP
  rintro e w4 ⟨rfl, v', x', hx, hT, hK, hxa⟩
  have H4 : Hid ((x'.key = (gr, c) ∧ x'.till = till ∧ x'.want = cleanW (any, fs)) ∧ Tb w4 B r v' (putE (X n) x') ∧ KT w w4 r (V n) v' ∧ ∀ b, x'.a = some b → w.heap.size ≤ b.block) :=
    ⟨hx, hT, (KT.ofBelow HB.out).trans hK, fun b hb => Nat.le_trans HB.out.size (hxa b hb)⟩
  clear hx hT hK hxa sc sl lk y0 y1 y2 y3 y4 yl
  go_wp2
  go_ret
  exact ⟨rfl, v', x', H4.out⟩

/-- A wish, at a member. -/
theorem stm_put {B : Nat} {w0 : World} {s g : Nat} {O : Nat → Prop} {A : Int → List Core} (n : Int) (gr : ByteArray) (c : Int) (fa : Option Addr) (fl fc : Nat) (any : Bool) (till : Int) (fs : List ByteArray) (w : World) (h : Stm B w0 w s g O A) (hf : StrIn w fa fl fs) (hfl : fl ≤ 100000) (hfo : ∀ b, fa = some b → ¬ O b.block) (hroom : (A n).length < 400) :
    Calls Tryz.prog 83 #[.pointer (some ⟨s, 0, none⟩), .int .i64 n, .agg #[.string gr, .int .i64 c, .slice fa fl fc, .bool any, .int .i64 till]] w fun e w' =>
      e = .returned .nilIface ∧ ∃ O', Stm B w0 w' s g O' (upd A n (putC (A n) ⟨gr, c, any, till, fs⟩)) ∧ Fr w w' O O' := by
  obtain ⟨R, V, X, h⟩ := h.ex
  cases hr : R n with
  | none =>
    refine (sput_new n gr c fa fl fc any till fs w h.st hr hf hfl (fun b hb e => hfo b hb (by rw [e]; exact h.glt.1))).mono ?_
    rintro e w' ⟨rfl, r, v', x', hx, hS, hk, h1, h2⟩
    have hm := h.more hr hS hk h1 h2
    have hm1 := hm.1
    have e1 : [x'].map Ep.core = putC (A n) ⟨gr, c, any, till, fs⟩ := by
      rw [h.val n, h.no n hr, List.map_singleton, core_of hx]; rfl
    rw [e1] at hm1
    exact ⟨rfl, _, ⟨_, _, _, hm1⟩, hm.2⟩
  | some r =>
    refine (sput_at n r gr c fa fl fc any till fs w h.st hr hf hfl (by rw [h.val n] at hroom; simpa using hroom)).mono ?_
    rintro e w' ⟨rfl, v', x', hx, hT, hK, hxa⟩
    have hm := h.upd hr hK hT (fun x hx2 => by
      rcases mem_putE' (h.st.tab n r hr).asc x' x hx2 with rfl | q
      · exact .inr hxa
      · exact .inl q)
    have hm1 := hm.1
    rw [putE_core (X n) x' _ (core_of hx), ← h.val n] at hm1
    exact ⟨rfl, _, ⟨_, _, _, hm1⟩, hm.2⟩
set_option maxHeartbeats 2000000 in
theorem swish_no {B : Nat} {w0 w : World} {s g : Nat} {R : Int → Option Nat} {V : Int → Value} {X : Int → List Ep} (n : Int) (name : ByteArray) (h : StI B w0 w s g R V X) (hn : R n = none) :
    Calls Tryz.prog 57 #[.pointer (some ⟨s, 0, none⟩), .int .i64 n, .string name] w fun e w' => e = .returned (.slice none 0 0) ∧ w' = w := by
  have sc := h.scell
  have sl := cell_block sc
  have lk := h.look_no hn
  clear h hn
  go_enter Tryz.func57, Tryz.ntmps57
  go_wp2
  go_ret
  exact ⟨rfl, rfl⟩
set_option maxHeartbeats 2000000 in
theorem swish_at {B : Nat} {w0 w : World} {s g : Nat} {R : Int → Option Nat} {V : Int → Value} {X : Int → List Ep} (n : Int) (r : Nat) (name : ByteArray) (h : StI B w0 w s g R V X) (hn : R n = some r) :
    Calls Tryz.prog 57 #[.pointer (some ⟨s, 0, none⟩), .int .i64 n, .string name] w fun e w' => ∃ v' Y, e = .returned v' ∧ ERowN w w' v' Y ∧ Y.map Ep.core = ((X n).filter (ofG name)).map Ep.core := by
  have HC : Hid _ := children_new B r (V n) (X n) name w (h.tab n r hn)
  have sc := h.scell
  have sl := cell_block sc
  have lk := h.look_at hn
  clear h hn
  go_enter Tryz.func57, Tryz.ntmps57
  go_wp2_with fail
  refine Calls.mono HC.out ?_
  clear HC
  rintro e w1 ⟨v', Y, rfl, hE, hY⟩
  go_wp2
  go_ret
  exact ⟨v', Y, rfl, hE, hY⟩
/-- What a member has of a group. -/
theorem stm_wishes {B : Nat} {w0 : World} {s g : Nat} {O : Nat → Prop} {A : Int → List Core} (n : Int) (name : ByteArray) (w : World) (h : Stm B w0 w s g O A) :
    Calls Tryz.prog 57 #[.pointer (some ⟨s, 0, none⟩), .int .i64 n, .string name] w fun e w' => ∃ v' Y, e = .returned v' ∧ ERowN w w' v' Y ∧ Y.map Ep.core = (A n).filter (ofC name) := by
  obtain ⟨R, V, X, h⟩ := h.ex
  cases hr : R n with
  | none =>
    refine (swish_no n name h.st hr).mono ?_
    rintro e w' ⟨rfl, hw⟩
    subst hw
    exact ⟨_, [], rfl, ERowN.nil (Below.refl _ _), by rw [h.val n, h.no n hr]; rfl⟩
  | some r =>
    refine (swish_at n r name h.st hr).mono ?_
    rintro e w' ⟨v', Y, rfl, hE, hY⟩
    exact ⟨v', Y, rfl, hE, by rw [hY, h.val n, ← filter_core]; rfl⟩
end Go.Proofs.YtmajlldfiiokoaaGreatDoor

/- table.Drop, rdv.forget, table.Groups. -/
namespace Go.Proofs.YtmajlldfiiokoaaGreatDoor
open Go.ChangeShapes Go.WideShapes Go.ChangeAt Go.RowKit Go.Deep
set_option linter.unusedVariables false

theorem enter_drop : ∀ args w, (callFunc 169 args).run Tryz.prog w = .ok (.enter 169 args) w := fun args w => by
  kernel_rfl
def dropB (g : ByteArray) (c : Int) (x : Ep) : Bool := x.gr.toList == g.toList && x.ch == c
set_option maxHeartbeats 1000000 in
theorem drop1_any (x : Ep) (b1 b2 : Nat) (g : ByteArray) (c : Int) (w : World) (h1 : w.cell? ⟨b1, 0, none⟩ = some (.string g)) (h2 : w.cell? ⟨b2, 0, none⟩ = some (.int .i64 c)) :
    Calls Tryz.prog 169 (#[.agg #[.string x.gr, .int .i64 x.ch, .slice x.a x.ln x.cp, .bool x.any, .int .i64 x.till]] ++ #[.pointer (some ⟨b1, 0, none⟩), .pointer (some ⟨b2, 0, none⟩)]) w fun e w' => e = .returned (.bool (dropB g c x)) ∧ Below w.heap.size w w' := by
  obtain ⟨W1, hW1⟩ : ∃ W1, W1 = w.alloc (.cells #[.string x.gr, .int .i64 x.ch, .slice x.a x.ln x.cp, .bool x.any, .int .i64 x.till] 89) := ⟨_, rfl⟩
  have B1 : Hid (Below w.heap.size w W1) := by rw [hW1]; exact (Below.refl _ _).alloc (Nat.le_refl _) _
  have y0 : W1.cell? ⟨w.heap.size, 0, none⟩ = some (.string x.gr) := by rw [hW1]; simp
  have yc : W1.cell? ⟨w.heap.size, 1, none⟩ = some (.int .i64 x.ch) := by rw [hW1]; simp
  have y1 := cgE h1 B1.out
  have y2 := cgE h2 B1.out
  have l1 : b1 < W1.heap.size := World.block_lt_of_cell? _ _ y1
  have l2 : b2 < W1.heap.size := World.block_lt_of_cell? _ _ y2
  have l0 : w.heap.size < W1.heap.size := World.block_lt_of_cell? _ _ y0
  clear h1 h2
  by_cases hg : x.gr.toList = g.toList
  · have hg' : (x.gr.toList == g.toList) = true := by simpa using hg
    have HD : Hid (dropB g c x = (x.ch == c)) := by show _ = _; simp [dropB, hg]
    clear hg
    go_enter Tryz.func169, Tryz.ntmps169
    go_upto_region 1 with fail
    rw [← hW1]
    clear hW1
    go_wp2
    go_ret
    exact ⟨by rw [HD.out]; rfl, B1.out⟩
  · have hg' : (x.gr.toList == g.toList) = false := by simpa using hg
    have HD : Hid (dropB g c x = false) := by show _ = _; simp [dropB, hg]
    clear hg
    go_enter Tryz.func169, Tryz.ntmps169
    go_upto_region 1 with fail
    rw [← hW1]
    clear hW1
    go_wp2
    go_ret
    exact ⟨by rw [HD.out]; rfl, B1.out⟩

set_option maxHeartbeats 2000000 in
theorem drop_any (B r : Nat) (v : Value) (X : List Ep) (g : ByteArray) (c : Int) (w : World) (h : Tb w B r v X) (hB : B ≤ w.heap.size) :
    Calls Tryz.prog 129 #[.pointer (some ⟨r, 0, none⟩), .string g, .int .i64 c] w fun e w' => ∃ ev v2, e = .returned ev ∧ Tb w' B r v2 (X.filter (fun x => !dropB g c x)) ∧ KT w w' r v v2 := by
  obtain ⟨W1, hW1⟩ : ∃ W1, W1 = (w.alloc (.cells #[.string g] 9)).alloc (.cells #[.int .i64 c] 3) := ⟨_, rfl⟩
  have b1 : Below w.heap.size w W1 := by rw [hW1]; exact ((Below.refl _ _).alloc (Nat.le_refl _) _).alloc (by simp) _
  have z1 : W1.heap.size = w.heap.size + 2 := by rw [hW1]; simp
  have y1 : W1.cell? ⟨w.heap.size, 0, none⟩ = some (.string g) := by rw [hW1]; simp
  have y2 : W1.cell? ⟨w.heap.size + 1, 0, none⟩ = some (.int .i64 c) := by rw [hW1]; simp
  have ht := take_any 169 #[.pointer (some ⟨w.heap.size, 0, none⟩), .pointer (some ⟨w.heap.size + 1, 0, none⟩)] (dropB g c) B r v X W1 enter_drop (h.below b1) (Nat.le_trans hB b1.size)
    (fun W x hxm hb => drop1_any x _ _ g c W (cgE y1 hb) (cgE y2 hb))
  have HT : Hid _ := ht
  have HB : Hid _ := b1
  have HLe : Hid ((X.filter (dropB g c)).length ≤ 400) := Nat.le_trans (List.length_filter_le _ _) h.le
  clear ht b1 y1 y2 z1
  generalize hm : (X.filter (dropB g c)).length = m at HT HLe
  clear hm
  go_enter Tryz.func129, Tryz.ntmps129
  go_wp2_with fail
  rw [← hW1]
  clear hW1
  refine Calls.mono HT.out ?_
  clear HT
  rintro e w2 ⟨a', c', v2, rfl, h1, h2, _, _⟩
  have H2 : Hid (Tb w2 B r v2 (X.filter (fun x => !dropB g c x)) ∧ KT w w2 r v v2) := ⟨h1, (KT.ofBelow HB.out).trans h2⟩
  clear h1 h2
  by_cases hm0 : m = 0
  · have hmI : (m : Int) = 0 := by omega
    go_wp2
    go_ret
    exact ⟨_, v2, rfl, H2.out.1, H2.out.2⟩
  · have hmI : ¬ (m : Int) = 0 := by omega
    go_wp2
    go_ret
    exact ⟨_, v2, rfl, H2.out.1, H2.out.2⟩

def leftF (name : ByteArray) (Y : List Ep) (x : Ep) : Bool := !(ofG name x && decide (x.ch ∈ Y.map Ep.ch))
theorem leftF_nil (name : ByteArray) (X : List Ep) : X.filter (leftF name []) = X := by
  rw [List.filter_eq_self]
  intro x _
  simp [leftF]
theorem leftF_snoc (name : ByteArray) (X Y : List Ep) (y : Ep) : (X.filter (leftF name Y)).filter (fun x => !dropB name y.ch x) = X.filter (leftF name (Y ++ [y])) := by
  rw [List.filter_filter]
  apply List.filter_congr
  intro x _
  unfold leftF dropB ofG
  by_cases h1 : x.gr.toList = name.toList <;> by_cases h2 : x.ch = y.ch <;> by_cases h3 : x.ch ∈ Y.map Ep.ch <;> simp [h1, h2, h3] <;> simp_all
theorem leftF_end (name : ByteArray) (X Y : List Ep) (h : Y.map Ep.core = (X.filter (ofG name)).map Ep.core) : X.filter (leftF name Y) = X.filter (fun x => !ofG name x) := by
  apply List.filter_congr
  intro x hx
  unfold leftF
  cases hg : ofG name x with
  | false => simp
  | true =>
    have hm : x.core ∈ Y.map Ep.core := by rw [h]; exact List.mem_map_of_mem (List.mem_filter.2 ⟨hx, hg⟩)
    obtain ⟨y, hy, he⟩ := List.mem_map.1 hm
    have : x.ch ∈ Y.map Ep.ch := List.mem_map.2 ⟨y, hy, congrArg Core.ch he⟩
    simp [this]
theorem take_snocE (Y : List Ep) {i : Nat} (h : i < Y.length) : Y.take (i + 1) = Y.take i ++ [Y.getD i ep0] := by
  rw [List.take_add_one, List.getD_eq_getElem?_getD, List.getElem?_eq_getElem h]; rfl
/-- An entry of a list of one's own, read in a later world. -/
theorem ERow.read {w0 w w' : World} {a : Option Addr} {n c : Nat} {Y : List Ep} (h : ERow w0 w (.slice a n c) Y) (hn : n = Y.length) (hl : n ≤ 100000) (hb : ∀ b, w0.heap.size ≤ b → b < w.heap.size → (Value.slice a n c).ownBlock = some b → w'.heap[b]? = w.heap[b]?) {i : Nat} (hi : i < n) :
    ∃ b o, a = some ⟨b, o, none⟩ ∧ b < w.heap.size ∧ w'.cell? ⟨b, o + i * 5, none⟩ = some (.string (Y.getD i ep0).gr) ∧ w'.cell? ⟨b, o + i * 5 + 1, none⟩ = some (.int .i64 (Y.getD i ep0).ch) ∧ w'.cell? ⟨b, o + i * 5 + 2, none⟩ = some (.slice (Y.getD i ep0).a (Y.getD i ep0).ln (Y.getD i ep0).cp) ∧ w'.cell? ⟨b, o + i * 5 + 3, none⟩ = some (.bool (Y.getD i ep0).any) ∧ w'.cell? ⟨b, o + i * 5 + 4, none⟩ = some (.int .i64 (Y.getD i ep0).till) := by
  subst hn
  obtain ⟨b, o, ha, hbl, _, _, e0, e1, e2, e3, e4⟩ := (h.ent hl).at hi
  subst ha
  have hown : (Value.slice (some ⟨b, o, none⟩) Y.length c).ownBlock = some b := by
    rcases h.row.2 with ⟨h1, h2⟩ | ⟨g, cap, cur, hv, _⟩
    · omega
    · simp only [Value.slice.injEq, Option.some.injEq, Addr.mk.injEq] at hv
      obtain ⟨⟨rfl, rfl, _⟩, _, rfl⟩ := hv
      rfl
  have hB := hb b (h.row.lt b hown).1 hbl hown
  exact ⟨b, o, rfl, hbl, (World.cell?_of_block (a := ⟨b, _, none⟩) hB).trans e0, (World.cell?_of_block (a := ⟨b, _, none⟩) hB).trans e1, (World.cell?_of_block (a := ⟨b, _, none⟩) hB).trans e2, (World.cell?_of_block (a := ⟨b, _, none⟩) hB).trans e3, (World.cell?_of_block (a := ⟨b, _, none⟩) hB).trans e4⟩

set_option maxRecDepth 100000 in
set_option maxHeartbeats 4000000 in
/-- A table loses all wishes of a group. -/
theorem forget_any (B r : Nat) (v : Value) (X : List Ep) (name : ByteArray) (w : World) (h : Tb w B r v X) (hB : B ≤ w.heap.size) :
    Calls Tryz.prog 86 #[.pointer (some ⟨r, 0, none⟩), .string name] w fun e w' => e = .returned (.tuple #[]) ∧ ∃ v2, Tb w' B r v2 (X.filter (fun x => !ofG name x)) ∧ KT w w' r v v2 := by
  have HC : Hid _ := children_any B r v X name w h
  have HT : Hid (Tb w B r v X ∧ B ≤ w.heap.size) := ⟨h, hB⟩
  clear h hB
  go_enter Tryz.func86, Tryz.ntmps86
  go_wp2_with fail
  refine Calls.mono HC.out ?_
  clear HC
  rintro e w1 ⟨v1, Y, rfl, hE, hY⟩
  obtain ⟨a, c, hv⟩ := hE.shape
  subst hv
  obtain ⟨n, hn⟩ : ∃ n, n = Y.length := ⟨_, rfl⟩
  rw [← hn] at hE ⊢
  have hnl : n ≤ 400 := by
    have h1 := congrArg List.length hY
    rw [List.length_map, List.length_map, ← hn] at h1
    have h2 := List.length_filter_le (ofG name) X
    have h3 := HT.out.1.le
    omega
  have HY : Hid (n = Y.length ∧ Y.map Ep.core = (X.filter (ofG name)).map Ep.core) := ⟨hn, hY⟩
  have HE : Hid (ERow w w1 (.slice a n c) Y) := hE
  have HT1 : Hid (Tb w1 B r v X) := HT.out.1.below hE.bel
  clear hn hY hE
  go_wp2
  go_loopg [10] n (fun kx st wr => ∃ i : Nat, st = .int .i64 i ∧ i ≤ n ∧ kx = n - i ∧ Hid (∃ vr, Tb wr B r vr (X.filter (leftF name (Y.take i))) ∧ KT w1 wr r v vr))
  case atStart => exact ⟨0, rfl, Nat.zero_le _, rfl, ⟨v, by rw [List.take_zero, leftF_nil]; exact HT1.out, KT.ofBelow (Below.refl _ _)⟩⟩
  case round =>
    obtain ⟨i, rfl, hi, rfl, HB⟩ := hrel
    obtain ⟨vr, hv1, hv2⟩ := HB.out
    have HV : Hid (Tb wr B r vr (X.filter (leftF name (Y.take i))) ∧ KT w1 wr r v vr) := ⟨hv1, hv2⟩
    clear HB hv1 hv2
    by_cases hlt : i < n
    · have hltI : (i : Int) < (n : Int) := by omega
      obtain ⟨b, o, ha, hbl, e0, e1, e2, e3, e4⟩ := ERow.read (w' := wr) HE.out HY.out.1 (by omega) (fun b h1 h2 h3 => HV.out.2.block b h2 (by have := HT.out.1.lt; omega) (fun e => by have := (HT.out.1.row.lt b e).2; omega)) hlt
      subst ha
      have hbl2 : b < wr.heap.size := Nat.lt_of_lt_of_le hbl HV.out.2.size
      have hsn := take_snocE Y (i := i) (by rw [← HY.out.1]; exact hlt)
      obtain ⟨x, hx⟩ : ∃ x, x = Y.getD i ep0 := ⟨_, rfl⟩
      rw [← hx] at e0 e1 e2 e3 e4 hsn
      have HSN : Hid (Y.take (i + 1) = Y.take i ++ [x]) := hsn
      have HW : Hid (∃ W, W = wr.alloc (.cells #[.string x.gr, .int .i64 x.ch, .slice x.a x.ln x.cp, .bool x.any, .int .i64 x.till] 89)) := ⟨_, rfl⟩
      obtain ⟨W, hW⟩ := HW.out
      have bW : Below wr.heap.size wr W := by rw [hW]; exact below_one _ _
      have HD : Hid _ := drop_any B r vr (X.filter (leftF name (Y.take i))) name x.ch W (HV.out.1.below bW) (Nat.le_trans (Nat.le_trans HT.out.2 HE.out.bel.size) (Nat.le_trans HV.out.2.size bW.size))
      have HBW : Hid (Below wr.heap.size wr W) := bW
      have d1 : W.cell? ⟨wr.heap.size, 1, none⟩ = some (.int .i64 x.ch) := by rw [hW]; simp
      clear hx hsn HW bW
      go_wp2_with fail
      try rw [← hW]
      clear hW
      refine Calls.mono HD.out ?_
      clear HD
      rintro e w4 ⟨ev, v2, rfl, h1, h2⟩
      rw [leftF_snoc, ← HSN.out] at h1
      have H4 : Hid (∃ vr, Tb w4 B r vr (X.filter (leftF name (Y.take (i + 1)))) ∧ KT w1 w4 r v vr) := ⟨v2, h1, (HV.out.2.trans (KT.ofBelow HBW.out)).trans h2⟩
      clear h1 h2 e0 e1 e2 e3 e4 hbl hbl2 d1
      go_wp2
      go_roundg (n - (i + 1))
      case measure => omega
      case rel => exact ⟨i + 1, by go_num, by omega, rfl, H4⟩
    · obtain rfl : i = n := by omega
      go_wp2
      go_end0
      refine ⟨rfl, vr, ?_, (KT.ofBelow HE.out.bel).trans HV.out.2⟩
      have := HV.out.1
      rw [List.take_of_length_le (by rw [← HY.out.1]; exact Nat.le_refl _), leftF_end name X Y HY.out.2] at this
      exact this

set_option maxRecDepth 100000 in
set_option maxHeartbeats 4000000 in
/-- The groups that have entries. -/
theorem groups_any (B r : Nat) (v : Value) (X : List Ep) (w : World) (h : Tb w B r v X) :
    Calls Tryz.prog 84 #[.pointer (some ⟨r, 0, none⟩)] w fun e w' => (∃ a c, e = .returned (.slice a (onceS (X.map Ep.gr)).length c) ∧ StrIn w' a (onceS (X.map Ep.gr)).length (onceS (X.map Ep.gr)) ∧ ∀ b, a = some b → w.heap.size ≤ b.block) ∧ Below w.heap.size w w' := by
  obtain ⟨i0, hi, hz0, hz1, hz2⟩ := infoStr_parts
  obtain ⟨a, cp, hv⟩ := h.shape
  subst hv
  have hle := h.le
  obtain ⟨n, hn⟩ : ∃ n, n = X.length := ⟨_, rfl⟩
  rw [← hn] at h hle
  have HN : Hid (n = X.length) := hn
  have HE : Hid (EntIn w a n X) := by
    show EntIn _ _ _ _
    rw [hn]; exact Tb.ent (by rw [← hn]; exact h)
  have x0 := h.cell
  have xl := h.lt
  clear h hn
  go_enter Tryz.func84, Tryz.ntmps84
  go_wp2
  go_loopg [3, 11] n (fun kx v st wr => ∃ (i : Nat) (xa : Option Addr) (xc : Nat), st = .int .i64 i ∧ v = .slice xa i xc ∧ i ≤ n ∧ kx = n - i ∧ Hid (wr.ownsRow w.heap.size 9 1 (.slice xa i xc) i (((X.take i).map Ep.gr).map Value.string) ∧ Below w.heap.size w wr))
  case atStart => exact ⟨0, none, 0, rfl, rfl, Nat.zero_le _, rfl, ⟨World.ownsRow_nil _ _ _ _, Below.refl _ _⟩⟩
  case round =>
    obtain ⟨i, xa, xc, rfl, rfl, hin, rfl, HB⟩ := hrel
    by_cases hlt : i < n
    · have hltI : (i : Int) < (n : Int) := by omega
      obtain ⟨b, o, ha, hb, _, _, e0, e1, e2, e3, e4⟩ := (HE.out.below HB.out.2).at hlt
      subst ha
      obtain ⟨x, hx⟩ : ∃ x, x = X.getD i ep0 := ⟨_, rfl⟩
      rw [← hx] at e0 e1 e2 e3 e4
      have HM : Hid (((X.take (i + 1)).map Ep.gr).map Value.string = ((X.take i).map Ep.gr).map Value.string ++ [.string x.gr]) := by
        show _ = _
        rw [take_snocE X (i := i) (by rw [← HN.out]; exact hlt), ← hx]; simp
      clear hx
      obtain ⟨W1, hW1⟩ : ∃ W1, W1 = wr.alloc (.cells #[.string x.gr, .int .i64 x.ch, .slice x.a x.ln x.cp, .bool x.any, .int .i64 x.till] 89) := ⟨_, rfl⟩
      have b01 : Below wr.heap.size wr W1 := by rw [hW1]; exact below_one _ _
      have d0 : W1.cell? ⟨wr.heap.size, 0, none⟩ = some (.string x.gr) := by rw [hW1]; simp
      have dl := cell_block d0
      have HA : Hid ((W1.alloc (.cells #[.string x.gr] 9)).ownsRow w.heap.size 9 1 (.slice xa i xc) i (((X.take i).map Ep.gr).map Value.string)) := by
        have b2 := b01.trans ((below_one W1 (.cells #[.string x.gr] 9)).mono b01.size)
        exact row_atJ HB.out.1 (fun k hk => b2.block k (HB.out.1.lt k hk).2)
      have HSR : Hid (Src Tryz.prog 1 55 (.slice (some ⟨wr.heap.size + 1, 0, none⟩) 1 1) 1 [.string x.gr] (W1.alloc (.cells #[.string x.gr] 9))) := by
        have z1 : W1.heap.size = wr.heap.size + 1 := by rw [hW1]; simp
        rw [← z1]
        exact srcStr _ [.string x.gr] _ (heap_alloc_new _ _) rfl (by simp [Value.oneCell'])
      have HSz : Hid (w.heap.size ≤ W1.heap.size) := Nat.le_trans HB.out.2.size b01.size
      have HB1 : Hid (Below w.heap.size w W1) := HB.out.2.trans (b01.mono HB.out.2.size)
      clear b01
      go_wp2_with (at_builtin; rw [← hW1]; go_loud (refine wpList_own_append _ rfl _ _ 55 55 rfl w.heap.size 9 i0 _ 16 Tryz.underlying55 hi hz0 hz1 hz2 rfl _ _ _ rfl HA.out _ 1 _ rfl HSR.out (by unfold maxLen; omega) (by omega) (by have := HSz.out; simp; omega) ?_))
      intro v' w3 ha
      obtain ⟨x3, k3, rfl⟩ := ha.shape
      have H3 : Hid (w3.ownsRow w.heap.size 9 1 (.slice x3 (i + 1) k3) (i + 1) (((X.take (i + 1)).map Ep.gr).map Value.string) ∧ Below w.heap.size w w3) := by
        rw [← hW1] at ha
        refine ⟨by rw [HM.out]; have hr := ha.row; simpa [List.map_take] using hr, ?_⟩
        exact (HB1.out.alloc HB1.out.size _).grown ha.grown (by have := HSz.out; simp; omega) (fun z hz => (World.ownsRow.lt HA.out z hz).1)
      clear ha HA HSR HSz e0 e1 e2 e3 e4 d0 dl hW1 HB1
      go_wp2
      go_roundg (n - (i + 1))
      case measure => omega
      case rel => exact ⟨i + 1, x3, k3, by go_num, rfl, by omega, rfl, H3⟩
    · obtain rfl : i = n := by omega
      have HC : Hid _ := compact_newS w.heap.size wr xa i xc (X.map Ep.gr) (by
        have := HB.out.1
        rw [List.take_of_length_le (by rw [← HN.out]; exact Nat.le_refl _)] at this
        exact this) (by omega)
      go_wp2_with fail
      refine Calls.mono HC.out ?_
      clear HC
      rintro e w4 ⟨⟨a4, c4, rfl, hs4, ha4⟩, b4⟩
      have H4 : Hid (StrIn w4 a4 (onceS (X.map Ep.gr)).length (onceS (X.map Ep.gr)) ∧ Below w.heap.size w w4 ∧ ∀ b, a4 = some b → w.heap.size ≤ b.block) := ⟨hs4, HB.out.2.trans b4, ha4⟩
      clear hs4 b4 ha4
      go_wp2
      go_ret
      exact ⟨⟨a4, c4, rfl, H4.out.1, H4.out.2.2⟩, H4.out.2.1⟩
end Go.Proofs.YtmajlldfiiokoaaGreatDoor
