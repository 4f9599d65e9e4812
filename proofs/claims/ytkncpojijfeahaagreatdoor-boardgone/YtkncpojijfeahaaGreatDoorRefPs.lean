/- The document's reader (wigwagref06): Parse. -/
import Derived.Test.YtkncpojijfeahaaGreatDoorRefPr3
import Derived.Test.YtkncpojijfeahaaGreatDoorJoinAsFault
namespace Go.Proofs.YtkncpojijfeahaaGreatDoor
open Go.ChangeShapes Go.WideShapes Go.ChangeAt Go.RowKit
set_option linter.unusedVariables false

/-- The place, and the predicates so far. -/
structure Pg (w W : World) (s : ByteArray) (j : Nat) (v : Value) (acc : List Pl) : Prop where
  box : W.heap[w.heap.size]? = some (.cells #[.string s, .int .i64 (j : Int), .bool false] 196 (0, 0))
  row : W.ownsRow (w.heap.size + 1) 160 5 v acc.length (acc.flatMap Pl.cells)
  bel : Below w.heap.size w W
theorem Pg.below {w W W' : World} {s : ByteArray} {j : Nat} {v : Value} {acc : List Pl} (h : Pg w W s j v acc) (hb : Below W.heap.size W W') : Pg w W' s j v acc :=
  ⟨(hb.block _ (lt_of_block h.box)).trans h.box, own_carryF h.row hb, h.bel.trans (hb.mono h.bel.size)⟩
theorem Pg.far {w W : World} {s : ByteArray} {j : Nat} {v : Value} {acc : List Pl} (h : Pg w W s j v acc) : v.ownBlock ≠ some w.heap.size := fun e => by have := (h.row.lt _ e).1; omega
theorem Pg.le {w W : World} {s : ByteArray} {j : Nat} {v : Value} {acc : List Pl} (h : Pg w W s j v acc) : w.heap.size + 1 ≤ W.heap.size := lt_of_block h.box
theorem Pg.setq {w W : World} {s : ByteArray} {j : Nat} {v : Value} {acc : List Pl} (h : Pg w W s j v acc) (Q i : Nat) (u : Value) (hQ : w.heap.size < Q) (hv : v.ownBlock ≠ some Q) : Pg w (W.setCell ⟨Q, i, none⟩ u) s j v acc :=
  ⟨(Below.heap_setCell _ _ _ _ (by simp; omega)).trans h.box, ownsRow_setCell_other h.row (a := ⟨Q, i, none⟩) hv _, h.bel.setCell (by simp; omega) _⟩
theorem Pg.set3 {w W : World} {s : ByteArray} {j : Nat} {v : Value} {acc : List Pl} (h : Pg w W s j v acc) (i : Nat) : Pg w (((W.setCell ⟨w.heap.size, 0, none⟩ (.string s)).setCell ⟨w.heap.size, 1, none⟩ (.int .i64 (i : Int))).setCell ⟨w.heap.size, 2, none⟩ (.bool false)) s i v acc :=
  ⟨box_setG (box_setG (box_setG h.box rfl) rfl) rfl, ownsRow_setCell_other (ownsRow_setCell_other (ownsRow_setCell_other h.row (a := ⟨w.heap.size, 0, none⟩) h.far _) (a := ⟨w.heap.size, 1, none⟩) h.far _) (a := ⟨w.heap.size, 2, none⟩) h.far _, ((h.bel.setCell (by simp) _).setCell (by simp) _).setCell (by simp) _⟩
theorem Pg.app {w W W2 : World} {s : ByteArray} {j : Nat} {v v' : Value} {acc : List Pl} {q : Pl} {o : Obj} (h : Pg w W s j v acc) (ha : Appended5 (w.heap.size + 1) 160 (W.alloc o) W2 v v' (acc.length + 1) (acc.flatMap Pl.cells ++ q.cells)) : Pg w W2 s j v' (acc ++ [q]) := by
  have hg := ha.grown
  have h1 := h.below ((Below.refl _ _).alloc (Nat.le_refl _) o)
  have hle := h1.le
  refine ⟨(hg.block _ (lt_of_block h1.box) (fun e => h.far e.symm)).trans h1.box, ?_, h1.bel.trans ⟨hg.os, hg.tape, hg.output, hg.size, fun k hk => hg.block k (by omega) (fun e => by have := (h.row.lt k e.symm).1; omega)⟩⟩
  have := ha.row
  simpa using this
theorem own_base {w : World} {base base' : Nat} {e : TypeId} {size : Nat} {v : Value} {n : Nat} {xs : List Value} (h : w.ownsRow base e size v n xs) (hb : base' ≤ base) : w.ownsRow base' e size v n xs :=
  ⟨h.1, h.2.imp id fun ⟨g, cap, cur, h1, h2, h3⟩ => ⟨g, cap, cur, h1, Nat.le_trans hb h2, h3⟩⟩
def RParsAns (e : Ending) (w w' : World) (s : ByteArray) : Prop :=
  if 300 < s.size then e = .returned (.tuple #[.slice none 0 0, .int .i64 1, .int .i64 0])
  else match pars s.data.toList with
    | .ok ps _ => ∃ v, e = .returned (.tuple #[v, .int .i64 0, .int .i64 0]) ∧ w'.ownsRow w.heap.size 160 5 v ps.length (ps.flatMap Pl.cells)
    | .fail _ r => e = .returned (.tuple #[.slice none 0 0, .int .i64 2, .int .i64 ((s.size - r.length : Nat) : Int)])
theorem word_dw (l : List UInt8) : rWord (l.dropWhile isBlank) = rWord l := by unfold rWord; rw [dw_dw]
theorem this_dw (x l : List UInt8) : rThis x (l.dropWhile isBlank) = rThis x l := by unfold rThis; rw [word_dw]
theorem rChars_suf (l : List UInt8) : ∀ acc, (rChars acc l).left <:+ l := by
  induction hn : l.length using Nat.strongRecOn generalizing l with
  | _ n ih =>
    intro acc
    cases l with
    | nil => unfold rChars; simp [Ps.left]
    | cons c r =>
      have hl : n = r.length + 1 := by rw [← hn]; rfl
      unfold rChars
      split
      · exact List.suffix_cons _ _
      · split
        · exact List.suffix_refl _
        · split
          · cases r with
            | nil => exact List.nil_suffix
            | cons d r' =>
              simp only
              split
              · exact ((ih r'.length (by simp at hl; omega) r' rfl (acc ++ [d])).trans (List.suffix_cons _ _)).trans (List.suffix_cons _ _)
              · exact List.suffix_cons _ _
          · exact (ih r.length (by omega) r rfl (acc ++ [c])).trans (List.suffix_cons _ _)
theorem rStr_suf (l : List UInt8) : (rStr l).left <:+ l := by
  have h := rMark_suf [34] l
  unfold rStr
  split
  · rename_i e; rw [e] at h; exact (rChars_suf _ _).trans h
  · rename_i e; rw [e] at h; exact h
theorem rMarkStr_suf (m l : List UInt8) : (rMarkStr m l).left <:+ l := by
  have h := rMark_suf m l
  unfold rMarkStr
  split
  · rename_i e; rw [e] at h; exact (rStr_suf _).trans h
  · rename_i e; rw [e] at h; exact h
theorem rNums_suf (l : List UInt8) : (rNums l).left <:+ l := by
  have h := rThis_suf [105, 110] l
  unfold rNums
  split
  · rename_i e; rw [e] at h; exact h
  · rename_i r e
    rw [e] at h
    have h2 := rnum_suf r
    split
    · rename_i e2; rw [e2] at h2; exact h2.trans h
    · rename_i lo r2 e2
      rw [e2] at h2
      have h3 := rMark_suf [46, 46] r2
      split
      · rename_i e3; rw [e3] at h3; exact h3.trans (h2.trans h)
      · rename_i r3 e3
        rw [e3] at h3
        have h4 := rnum_suf r3
        split
        · rename_i e4; rw [e4] at h4; exact h4.trans (h3.trans (h2.trans h))
        · rename_i e4; rw [e4] at h4; exact h4.trans (h3.trans (h2.trans h))
theorem rAsk_suf (nm l : List UInt8) : (rAsk nm l).left <:+ l := by
  cases l with
  | nil => simp [rAsk, Ps.left]
  | cons c r =>
    unfold rAsk
    simp only
    split
    · have h := rMarkStr_suf [61] (c :: r)
      split <;> (rename_i e; rw [e] at h; exact h)
    · split
      · have h := rMarkStr_suf [94, 61] (c :: r)
        split <;> (rename_i e; rw [e] at h; exact h)
      · have h := rNums_suf (c :: r)
        split <;> (rename_i e; rw [e] at h; exact h)
theorem rPred_suf (l : List UInt8) : (rPred l).left <:+ l := by
  unfold rPred
  have hw := rWord_suf l
  cases h1 : rWord l with
  | fail e r1 => rw [h1] at hw; exact hw
  | ok nm r1 =>
    rw [h1] at hw
    simp only
    have hb := rBegin_suf r1
    cases h2 : rBegin r1 with
    | fail e r2 => rw [h2] at hb; exact hb.trans hw
    | ok u r2 =>
      rw [h2] at hb
      exact (rAsk_suf nm r2).trans (hb.trans hw)

theorem fil_fail {n : Nat} {acc : List Pl} {l r : List UInt8} {e : Bool} (h : rPred l = .fail e r) : rFil (n + 1) acc l = .fail e r := by rw [rFil, h]
theorem fil_end {n : Nat} {acc : List Pl} {l r r' : List UInt8} {q : Pl} (h : rPred l = .ok q r) (h2 : rThis [97, 110, 100] r = .fail true r') : rFil (n + 1) acc l = .ok (acc ++ [q]) r' := by rw [rFil, h]; simp only; rw [h2]
theorem fil_bad {n : Nat} {acc : List Pl} {l r r' : List UInt8} {q : Pl} (h : rPred l = .ok q r) (h2 : rThis [97, 110, 100] r = .fail false r') : rFil (n + 1) acc l = .fail false r' := by rw [rFil, h]; simp only; rw [h2]
theorem fil_go {n : Nat} {acc : List Pl} {l r r' : List UInt8} {q : Pl} {u : Unit} (h : rPred l = .ok q r) (h2 : rThis [97, 110, 100] r = .ok u r') : rFil (n + 1) acc l = rFil n (acc ++ [q]) r' := by rw [rFil, h]; simp only; rw [h2]
theorem word_no {l r : List UInt8} {e : Bool} (hb : l.dropWhile isBlank = l) (h0 : l ≠ []) (h : rWord l = .fail e r) : e = false ∧ r = l := by
  unfold rWord at h
  rw [hb] at h
  cases l with
  | nil => exact absurd rfl h0
  | cons c q =>
    simp only at h
    split at h
    · cases h
    · cases h; exact ⟨rfl, rfl⟩

set_option maxRecDepth 100000 in
set_option maxHeartbeats 8000000 in
theorem rparse_any (s : ByteArray) (w : World) (hs : s.size ≤ maxLen) :
    Calls Tryz.prog 56 #[.string s] w fun e w' => RParsAns e w w' s ∧ Below w.heap.size w w' := by
  obtain ⟨i0, hi, hz0, hz1, hz2⟩ := info_parts Tryz.infoRP
  unfold maxLen at hs
  by_cases hl : 300 < s.size
  · have HA : Hid (∀ w', RParsAns (.returned (.tuple #[.slice none 0 0, .int .i64 1, .int .i64 0])) w w' s) := fun w' => by unfold RParsAns; rw [if_pos hl]
    go_enter Tryz.func56, Tryz.ntmps56
    go_wp2
    exact bodyPost_ret (v := .tuple #[.slice none 0 0, .int .i64 1, .int .i64 0]) (by simp [results, Tryz.results56, go_sem]) rfl ⟨HA.out _, Below.refl _ _⟩
  · have hs3 : s.size ≤ 1000 := by omega
    have hl3 : s.size ≤ 300 := by omega
    obtain ⟨RF, hRF⟩ : ∃ RF, RF = pars s.data.toList := ⟨_, rfl⟩
    have HAo : Hid (∀ w' v ps l, RF = .ok ps l → w'.ownsRow w.heap.size 160 5 v ps.length (ps.flatMap Pl.cells) → RParsAns (.returned (.tuple #[v, .int .i64 0, .int .i64 0])) w w' s) := fun w' v ps l h hr => by
      unfold RParsAns; rw [if_neg hl, ← hRF, h]; exact ⟨v, rfl, hr⟩
    have HAf : Hid (∀ w' b r (n : Nat), RF = .fail b r → n = pos s r → RParsAns (.returned (.tuple #[.slice none 0 0, .int .i64 2, .int .i64 (n : Int)])) w w' s) := fun w' b r n h hn => by
      unfold RParsAns; rw [if_neg hl, ← hRF, h, hn]; rfl
    have e0 : dr s 0 = s.data.toList := by simp [dr]
    have HRF : Hid (RF = rFil (s.size + 1 - 0) [] (dr s 0)) := by
      rw [Hid, hRF, e0]; unfold pars; simp
    clear hRF e0
    have HS0 : Hid (∀ W : World, W = w.alloc (.cells #[.string s, .int .i64 ((0 : Nat) : Int), .bool false] 196) → Pg w (W.alloc (.cells #[] 160)) s 0 (.slice (some ⟨W.heap.size, 0, none⟩) 0 0) []) := fun W hW => by
      have hb : Below w.heap.size w W := by rw [hW]; exact (Below.refl _ _).alloc (Nat.le_refl _) _
      have hx : W.heap[w.heap.size]? = some (.cells #[.string s, .int .i64 ((0 : Nat) : Int), .bool false] 196 (0, 0)) := by rw [hW]; exact heap_alloc_new w _
      exact ⟨(Below.heap_alloc _ _ _ (lt_of_block hx)).trans hx, World.ownsRow_made _ #[] 0 (lt_of_block hx) (Nat.zero_le _) rfl, hb.trans (((Below.refl _ _).alloc (Nat.le_refl _) _ : Below W.heap.size W _).mono hb.size)⟩
    go_enter Tryz.func56, Tryz.ntmps56
    go_wp2_with fail
    go_loopg [6, 7] (s.size + 1) (fun kx s6 s7 wr => ∃ (i j m : Nat) (acc : List Pl) (a : Option Addr) (c : Nat), s6 = .slice a m c ∧ s7 = .int .i64 (i : Int) ∧ i ≤ j ∧ j ≤ s.size ∧ m ≤ i ∧ kx = s.size + 1 - i ∧ Hid (m = acc.length ∧ Pg w wr s j (.slice a m c) acc ∧ RF = rFil (s.size + 1 - i) acc (dr s j)))
    case atStart => exact ⟨0, 0, 0, [], _, 0, rfl, rfl, Nat.le_refl _, Nat.zero_le _, Nat.le_refl _, rfl, (⟨rfl, by simpa using HS0.out _ rfl, HRF.out⟩ : _ ∧ _ ∧ _)⟩
    case round =>
      obtain ⟨i, j, m, acc, a, c, rfl, rfl, hij, hj, hmi, rfl, I⟩ := hrel
      obtain ⟨c0, c1, c2, cf, cl⟩ := threeP I.out.2.1.box
      have HPR : Hid _ := fun W => rpred_any s j W hj hs3
      have hile : (i : Int) ≤ (s.size : Int) := by omega
      have hsuf := rPred_suf (dr s j)
      have HSZ : Hid (s.size + 1 - i = (s.size - i) + 1) := (by omega : s.size + 1 - i = (s.size - i) + 1)
      go_wp2_with fail
      refine Calls.mono (HPR.out _) ?_
      rintro e W1 ⟨⟨q, rfl, hq⟩, b1⟩
      have I1 : Hid (Pg w W1 s j (.slice a m c) acc) := I.out.2.1.below b1
      have HFR : Hid (m = acc.length ∧ RF = rFil (s.size + 1 - i) acc (dr s j)) := ⟨I.out.1, I.out.2.2⟩
      have hvl : ∀ B, (Value.slice a m c).ownBlock = some B → B < W1.heap.size := fun B h => (I1.out.row.lt B h).2
      have HVL : Hid _ := hvl
      clear b1 c0 c1 c2 cf cl I hvl
      cases hres : rPred (dr s j) with
      | fail ee r =>
        rw [hres] at hsuf hq
        obtain ⟨n, hn⟩ : ∃ n, n = pos s r := ⟨_, rfl⟩
        have HW : Hid (RF = .fail ee r) := by rw [Hid, HFR.out.2, HSZ.out]; exact fil_fail hres
        have HN : Hid (n = pos s r) := hn
        have el : pos s (Ps.fail (α := Pl) ee r).left = n := hn.symm
        have eb : (Ps.fail (α := Pl) ee r).isBad = true := rfl
        rw [el, eb]
        clear hn el eb hres hq
        go_wp2_with fail
        refine Calls.mono (rblanks_t s n _) ?_
        rintro e W2 ⟨rfl, b2⟩
        have B2 : Hid (Below w.heap.size w W2) := I1.out.bel.trans ((((Below.refl W1.heap.size W1).alloc (Nat.le_refl _) _).alloc (by simp) _).trans (b2.mono (by simp; omega)) |>.mono I1.out.bel.size)
        have z1 : W2.heap[W1.heap.size]? = some (.cells #[.string s, .int .i64 (n : Int), .bool true] 196 (0, 0)) := by
          refine (b2.block _ (by simp; omega)).trans ?_
          exact (alloc2_block W1 _ _).trans (heap_alloc_new W1 _)
        obtain ⟨q0, q1, q2, qf, ql⟩ := threeP z1
        clear b2 z1
        go_wp2_with fail
        go_quiet (fail)
        go_wp2
        refine bodyPost_ret (v := .tuple #[.slice none 0 0, .int .i64 2, .int .i64 (n : Int)]) (by simp [results, Tryz.results56, go_sem]) rfl ⟨HAf.out _ _ _ n HW.out HN.out, ?_⟩
        have hle1 := I1.out.bel.size
        exact (((B2.out.setCell (by simp; omega) _).setCell (by simp; omega) _).setCell (by simp; omega) _).trans ⟨rfl, rfl, rfl, Nat.le_refl _, fun _ _ => rfl⟩
      | ok q' r =>
        have hlen := rPred_len hres
        rw [dr_len] at hlen
        rw [hres] at hsuf hq
        have eqq : q' = q := hq q' r rfl
        subst eqq
        obtain ⟨n1, hn1⟩ : ∃ n1, n1 = pos s r := ⟨_, rfl⟩
        have hd1 : dr s n1 = r := by rw [hn1]; exact dr_posd hsuf
        have hl1 : n1 ≤ s.size := by rw [hn1]; exact pos_le _ _
        have hjn : j < n1 := by rw [hn1]; unfold pos; omega
        have el : pos s (Ps.ok q' r).left = n1 := hn1.symm
        have eb : (Ps.ok q' r).isBad = false := rfl
        rw [el, eb]
        have hn2d := nb_dr s n1
        have hn2l := nb_le s n1
        have HBK : Hid _ := fun W => rblanks_f s n1 W hl1 hs3
        rw [hd1] at hn2d
        generalize nb s n1 = n2 at *
        have HN2 : Hid (dr s n2 = r.dropWhile isBlank) := hn2d
        have HRP : Hid (rPred (dr s j) = .ok q' r) := hres
        have HD1 : Hid (dr s n1 = r ∧ n1 = pos s r) := ⟨hd1, hn1⟩
        clear hd1 hn1 el eb hq hn2d hres hsuf hlen
        have hQl : w.heap.size + 1 ≤ W1.heap.size := I1.out.le
        go_wp2_with fail
        refine Calls.mono (HBK.out _) ?_
        rintro e W2 ⟨rfl, b2⟩
        have I2 : Hid (Pg w W2 s j (.slice a m c) acc) := (I1.out.below (((Below.refl W1.heap.size W1).alloc (Nat.le_refl _) _).alloc (by simp) _)).below b2
        have z1 : W2.heap[W1.heap.size]? = some (.cells #[.string s, .int .i64 (n1 : Int), .bool false] 196 (0, 0)) := by
          refine (b2.block _ (by simp; omega)).trans ?_
          exact (alloc2_block W1 _ _).trans (heap_alloc_new W1 _)
        have z2 : W2.heap[W1.heap.size + 1]? = some (.cells #[.string (ba q'.name), .int .i64 q'.op, .int .i64 q'.lo, .int .i64 q'.hi, .string (ba q'.str)] 160 (0, 0)) := by
          refine (b2.block _ (by simp)).trans ?_
          exact (alloc2_new W1 _ _).trans (heap_alloc_new _ _)
        have HZ : Hid _ := And.intro z1 z2
        obtain ⟨q0, q1, q2, qf, ql⟩ := threeP z1
        obtain ⟨x0, x1, x2, x3, x4, xf, xl⟩ := fiveP z2
        clear b2 z1 z2 I1
        go_upto_region 10 with fail
        obtain ⟨V, hV⟩ : ∃ V, V = ((W2.setCell ⟨W1.heap.size, 0, none⟩ (.string s)).setCell ⟨W1.heap.size, 1, none⟩ (.int .i64 (n2 : Int))).setCell ⟨W1.heap.size, 2, none⟩ (.bool false) := ⟨_, rfl⟩
        rw [← hV]
        have hne : (Value.slice a m c).ownBlock ≠ some W1.heap.size := fun h => by have := HVL.out _ h; omega
        have IV : Hid (Pg w V s j (.slice a m c) acc) := by
          rw [Hid, hV]
          exact ((I2.out.setq _ 0 _ (by omega) hne).setq _ 1 _ (by omega) hne).setq _ 2 _ (by omega) hne
        have ZV : Hid (V.heap[W1.heap.size]? = some (.cells #[.string s, .int .i64 (n2 : Int), .bool false] 196 (0, 0)) ∧ V.heap[W1.heap.size + 1]? = some (.cells #[.string (ba q'.name), .int .i64 q'.op, .int .i64 q'.lo, .int .i64 q'.hi, .string (ba q'.str)] 160 (0, 0))) := by
          rw [Hid, hV]
          refine ⟨box_setG (box_setG (box_setG HZ.out.1 rfl) rfl) rfl, ?_⟩
          exact (Below.heap_setCell _ _ _ _ (by simp)).trans ((Below.heap_setCell _ _ _ _ (by simp)).trans ((Below.heap_setCell _ _ _ _ (by simp)).trans HZ.out.2))
        have HNE : Hid _ := hne
        clear hV HZ I2 q0 q1 q2 qf ql x0 x1 x2 x3 x4 xf xl hne HVL
        generalize W1.heap.size = Q at *
        obtain ⟨q0, q1, q2, qf, ql⟩ := threeP ZV.out.1
        obtain ⟨x0, x1, x2, x3, x4, xf, xl⟩ := fiveP ZV.out.2
        have HROW : Hid (V.ownsRow (w.heap.size + 1) 160 5 (.slice a m c) m (acc.flatMap Pl.cells)) := by
          have := IV.out.row; rw [← HFR.out.1] at this; exact this
        have hVl := IV.out.le
        go_wp2_with (at_builtin; refine wpList_own_append5 _ rfl _ _ 117 117 rfl (w.heap.size + 1) 160 i0 _ 56 Tryz.underlying117 hi hz0 hz1 hz2 rfl _ m (acc.flatMap Pl.cells) rfl (HROW.out.alloc _) _ 1 q'.cells rfl (src_RPl V q' _ rfl) ?c3 ?c4 ?c5 ?_)
        case c3 => unfold maxLen; omega
        case c4 => omega
        case c5 => first | omega | (simp; omega)
        intro v3 W3 ha
        obtain ⟨a3, c3', hv3⟩ := ha.shape
        subst hv3
        have I3 : Hid (Pg w W3 s j (.slice a3 (m + 1) c3') (acc ++ [q'])) := IV.out.app (by rw [← HFR.out.1]; exact ha)
        have ZQ : Hid (W3.heap[Q]? = some (.cells #[.string s, .int .i64 (n2 : Int), .bool false] 196 (0, 0))) := by
          have hzA := (Below.heap_alloc V (.cells #[.string (ba q'.name), .int .i64 q'.op, .int .i64 q'.lo, .int .i64 q'.hi, .string (ba q'.str)] 160) Q (lt_of_block ZV.out.1)).trans ZV.out.1
          exact (ha.grown.block Q (lt_of_block hzA) (fun e => HNE.out e.symm)).trans hzA
        clear ha q0 q1 q2 qf ql x0 x1 x2 x3 x4 xf xl HROW IV ZV HNE
        obtain ⟨q0, q1, q2, qf, ql⟩ := threeP ZQ.out
        by_cases hend : n2 = s.size
        · have HE : Hid (RF = .ok (acc ++ [q']) []) := by
            rw [Hid, HFR.out.2, HSZ.out]
            refine fil_end HRP.out ?_
            rw [← this_dw, ← HN2.out, hend, dr_end s s.size (Nat.le_refl _)]
            rfl
          have HRW : Hid (W3.ownsRow w.heap.size 160 5 (.slice a3 (m + 1) c3') (acc ++ [q']).length ((acc ++ [q']).flatMap Pl.cells)) := own_base I3.out.row (Nat.le_succ _)
          subst hend
          go_wp2
          exact bodyPost_ret (v := .tuple #[.slice a3 (m + 1) c3', .int .i64 0, .int .i64 0]) (by simp [results, Tryz.results56, go_sem]) rfl ⟨HAo.out _ _ _ _ HE.out HRW.out, I3.out.bel⟩
        · have hn2s : n2 < s.size := by omega
          have he1 : ((n2 : Int) == (s.size : Int)) = false := by simp; omega
          have he2 : ¬ (n2 : Int) = (s.size : Int) := by omega
          have hwsuf := rWord_suf (dr s n2)
          have HWD : Hid _ := fun W => rword_any s n2 false W hn2l hs3
          have HTH : Hid (rThis [97, 110, 100] r = rThis [97, 110, 100] (dr s n2)) := by rw [Hid, HN2.out, this_dw]
          have HDD : Hid ((dr s n2).dropWhile isBlank = dr s n2) := by rw [Hid, HN2.out, dw_dw]
          obtain ⟨k3, b3, wd, hm3⟩ : ∃ k3 b3 wd, wAft s n2 false = (k3, b3, wd) := ⟨_, _, _, rfl⟩
          rw [hm3] at HWD
          go_wp2_with fail
          refine Calls.mono (HWD.out _) ?_
          rintro e W4 ⟨rfl, b4⟩
          have I4 : Hid (Pg w W4 s j (.slice a3 (m + 1) c3') (acc ++ [q'])) := I3.out.below b4
          have ZQ4 : Hid _ := (b4.block _ (lt_of_block ZQ.out)).trans ZQ.out
          clear b4 q0 q1 q2 qf ql I3 ZQ HWD
          obtain ⟨q0, q1, q2, qf, ql⟩ := threeP ZQ4.out
          have HBE : Hid (Below w.heap.size w W4) := I4.out.bel
          have hway : (Hid (RF = .fail false (dr s n2)) ∧ (b3 = true ∨ (b3 = false ∧ wd.toList ≠ [97, 110, 100]))) ∨ (∃ r3, b3 = false ∧ wd = ⟨#[97, 110, 100]⟩ ∧ Hid (k3 = pos s r3 ∧ r3 <:+ dr s n2 ∧ RF = rFil (s.size - i) (acc ++ [q']) r3)) := by
            cases hw : rWord (dr s n2) with
            | fail e' r' =>
              obtain ⟨rfl, rfl⟩ := word_no HDD.out (by rw [dr_cons s n2 hn2s]; simp) hw
              have e3 : wAft s n2 false = (pos s (dr s n2), true, ⟨#[]⟩) := by unfold wAft; simp [hw, Ps.isBad, Ps.left, wdV]
              rw [e3] at hm3
              simp at hm3
              refine Or.inl ⟨?_, Or.inl hm3.2.1⟩
              rw [Hid, HFR.out.2, HSZ.out]
              refine fil_bad HRP.out ?_
              rw [HTH.out]; unfold rThis; rw [hw]
            | ok v r3 =>
              rw [hw] at hwsuf
              have e3 : wAft s n2 false = (pos s r3, false, ba v) := by unfold wAft; simp [hw, Ps.isBad, Ps.left, wdV]
              rw [e3] at hm3
              simp at hm3
              obtain ⟨u1, u2, u3⟩ := hm3
              by_cases hv : v = [97, 110, 100]
              · refine Or.inr ⟨r3, u2, ?_, u1.symm, hwsuf, ?_⟩
                · rw [← u3, hv]; rfl
                · rw [HFR.out.2, HSZ.out]
                  refine fil_go (u := ()) HRP.out ?_
                  rw [HTH.out]; unfold rThis; rw [hw]; simp [hv]
              · refine Or.inl ⟨?_, Or.inr ⟨u2, ?_⟩⟩
                · rw [Hid, HFR.out.2, HSZ.out]
                  refine fil_bad HRP.out ?_
                  rw [HTH.out]; unfold rThis; rw [hw]; simp only; rw [if_neg hv]
                  have := word_app hw
                  rw [HDD.out] at this
                  rw [this]
                · rw [← u3, ba_tl]; exact hv
          clear hm3 hwsuf
          rcases hway with ⟨HE, hb⟩ | ⟨r3, rfl, rfl, HG⟩
          · have HA2 : Hid _ := fun w' => HAf.out w' _ _ n2 HE.out (pos_dr hn2l).symm
            rcases hb with rfl | ⟨rfl, hw⟩
            · go_wp2_with fail
              go_quiet (fail)
              go_wp2
              refine bodyPost_ret (v := .tuple #[.slice none 0 0, .int .i64 2, .int .i64 (n2 : Int)]) (by simp [results, Tryz.results56, go_sem]) rfl ⟨HA2.out _, ?_⟩
              have hls := HBE.out.size
              exact (HBE.out.alloc (by omega) _).trans ⟨rfl, rfl, rfl, Nat.le_refl _, fun _ _ => rfl⟩
            · have hw2 : (wd.toList == [97, 110, 100]) = false := by simpa using hw
              go_wp2_with fail
              go_quiet (fail)
              go_wp2
              refine bodyPost_ret (v := .tuple #[.slice none 0 0, .int .i64 2, .int .i64 (n2 : Int)]) (by simp [results, Tryz.results56, go_sem]) rfl ⟨HA2.out _, ?_⟩
              have hls := HBE.out.size
              exact (HBE.out.alloc (by omega) _).trans ⟨rfl, rfl, rfl, Nat.le_refl _, fun _ _ => rfl⟩
          · obtain ⟨c0, c1, c2, cf, cl⟩ := threeP I4.out.box
            have hk3 : k3 ≤ s.size ∧ i + 1 ≤ k3 := by
              obtain ⟨u1, u2, _⟩ := HG.out
              have h1 := u2.length_le
              rw [HN2.out] at h1
              have h2 := (List.dropWhile_suffix (p := isBlank) (l := r)).length_le
              have h3 := HD1.out.2
              have h4 := u2.length_le
              rw [dr_len] at h4
              unfold pos at u1 h3
              omega
            obtain ⟨hk3s, hik⟩ := hk3
            have hdk : dr s k3 = dr s k3 := rfl
            have I5 : Hid (Pg w ((((W4.setCell ⟨w.heap.size, 0, none⟩ (.string s)).setCell ⟨w.heap.size, 1, none⟩ (.int .i64 (k3 : Int))).setCell ⟨w.heap.size, 2, none⟩ (.bool false)).alloc (.cells #[.string s, .int .i64 (k3 : Int), .bool false] 196)) s k3 (.slice a3 (m + 1) c3') (acc ++ [q'])) := (I4.out.set3 k3).below ((Below.refl _ _).alloc (Nat.le_refl _) _)
            have HRF2 : Hid (RF = rFil (s.size + 1 - (i + 1)) (acc ++ [q']) (dr s k3)) := by
              obtain ⟨u1, u2, u3⟩ := HG.out
              rw [Hid, u1, dr_posd u2, u3, show s.size + 1 - (i + 1) = s.size - i by omega]
            clear hdk
            go_wp2
            go_roundg (s.size + 1 - (i + 1))
            case measure => omega
            case rel => exact ⟨i + 1, k3, m + 1, acc ++ [q'], a3, c3', rfl, by go_num, hik, hk3s, by omega, rfl, (⟨by rw [HFR.out.1]; simp, I5.out, HRF2.out⟩ : _ ∧ _ ∧ _)⟩
end Go.Proofs.YtkncpojijfeahaaGreatDoor
