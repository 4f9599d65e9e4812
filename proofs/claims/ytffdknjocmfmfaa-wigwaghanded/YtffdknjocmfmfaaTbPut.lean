/- table.Put. -/
import Derived.Test.YtffdknjocmfmfaaTbTab
import Derived.Deep.RegionLaw
namespace Go.Proofs.Ytffdknjocmfmfaa
open Go.ChangeShapes Go.WideShapes Go.ChangeAt Go.RowKit
set_option linter.unusedVariables false

def putE (X : List Ep) (x : Ep) : List Ep := if hasK (X.map Ep.key) x.key then X.set (lb ltK (X.map Ep.key) x.key) x else X.take (lb ltK (X.map Ep.key) x.key) ++ [x] ++ X.drop (lb ltK (X.map Ep.key) x.key)

theorem EBox.drew {w wr : World} {z : Nat} {g : ByteArray} {c : Int} {f : Option Addr} {l p : Nat} {a : Bool} {t : Int} (h : EBox w wr z g c f l p a t) : EBox w wr.drew z g c f l p a t := h.below ⟨rfl, rfl, rfl, Nat.le_refl _, fun _ _ => rfl⟩
/-- The entry in its box, cleaned. -/
structure EClean (w wr : World) (z : Nat) (g : ByteArray) (c till : Int) (want : Bool × List ByteArray) (fa : Option Addr) (fl fc : Nat) (any : Bool) (fs : List ByteArray) : Prop where
  box : EBox w wr z g c fa fl fc any till
  is : (any, fs) = cleanW want
  str : StrIn wr fa fl fs
  le : fl ≤ 16
  new : ∀ b, fa = some b → w.heap.size ≤ b.block ∧ b.block < wr.heap.size ∧ b.block ≠ z

theorem box2_set {w : World} {z : Nat} {v0 v1 v2 v3 v4 u2 u3 : Value} {T : TypeId} (h : w.heap[z]? = some (.cells #[v0, v1, v2, v3, v4] T (0, 0))) :
    ((w.setCell ⟨z, 2, none⟩ u2).setCell ⟨z, 3, none⟩ u3).heap[z]? = some (.cells #[v0, v1, u2, u3, v4] T (0, 0)) := by
  have h1 : (w.setCell ⟨z, 2, none⟩ u2).heap[z]? = some (.cells #[v0, v1, u2, v3, v4] T (0, 0)) := by
    simp only [World.setCell, Array.getElem?_modify]; rw [h]; simp
  simp only [World.setCell, Array.getElem?_modify] at h1 ⊢
  rw [h1]; simp
theorem below_set2 {B : Nat} {w0 w : World} (h : Below B w0 w) {z : Nat} (hz : B ≤ z) (u2 u3 : Value) : Below B w0 ((w.setCell ⟨z, 2, none⟩ u2).setCell ⟨z, 3, none⟩ u3) := (h.setCell (p := ⟨z, 2, none⟩) hz u2).setCell (p := ⟨z, 3, none⟩) hz u3
theorem heap_set2 {w : World} {z k : Nat} (hk : k ≠ z) (u2 u3 : Value) : ((w.setCell ⟨z, 2, none⟩ u2).setCell ⟨z, 3, none⟩ u3).heap[k]? = w.heap[k]? := by
  rw [Below.heap_setCell _ _ _ _ hk, Below.heap_setCell _ _ _ _ hk]
theorem cleanW_none {x : Bool × List ByteArray} (h : joinE [] [x] = none) : (true, ([] : List ByteArray)) = cleanW x := by simp [cleanW, h]
theorem cleanW_some {x : Bool × List ByteArray} {acc : List ByteArray} (h : joinE [] [x] = some acc) : (false, acc) = cleanW x := by simp [cleanW, h]

set_option maxRecDepth 100000 in
set_option maxHeartbeats 4000000 in
theorem put_any (B r : Nat) (v : Value) (X : List Ep) (g : ByteArray) (c : Int) (fa : Option Addr) (fl fc : Nat) (any : Bool) (till : Int) (fs : List ByteArray) (w : World) (h : Tb w B r v X) (hf : StrIn w fa fl fs) (hfl : fl ≤ 100000) (hB : B ≤ w.heap.size) (hroom : hasK (X.map Ep.key) (g, c) = true ∨ X.length < 400) :
    Calls Try.prog 5 #[.pointer (some ⟨r, 0, none⟩), .agg #[.string g, .int .i64 c, .slice fa fl fc, .bool any, .int .i64 till]] w fun e w' =>
      e = .returned .nilIface ∧ ∃ v' x', (x'.key = (g, c) ∧ x'.till = till ∧ x'.want = cleanW (any, fs)) ∧ Tb w' B r v' (putE X x') ∧ KT w w' r v v' ∧ ∀ b, x'.a = some b → w.heap.size ≤ b.block := by
  obtain ⟨a, cp, hv⟩ := h.shape
  subst hv
  have hle := h.le
  obtain ⟨n, hn⟩ : ∃ n, n = X.length := ⟨_, rfl⟩
  rw [← hn] at h hle hroom ⊢
  have HN : Hid (n = X.length) := hn
  obtain ⟨k, hk⟩ : ∃ k, k = lb ltK (X.map Ep.key) (g, c) := ⟨_, rfl⟩
  obtain ⟨hs, hhs⟩ : ∃ hs, hs = hasK (X.map Ep.key) (g, c) := ⟨_, rfl⟩
  rw [← hhs] at hroom
  have HK : Hid (lb ltK (X.map Ep.key) (g, c) = k) := hk.symm
  have HS : Hid (hasK (X.map Ep.key) (g, c) = hs) := hhs.symm
  have HT : Hid (Tb w B r (.slice a n cp) X) := h
  have HF : Hid (StrIn w fa fl fs) := hf
  have hbsf : ∀ W, Below w.heap.size w W → Calls Try.prog 15 #[.slice a n cp, .agg #[.string g, .int .i64 c, .slice fa fl fc, .bool any, .int .i64 till], .func (.func 16) #[] #[]] W fun e w' => e = .returned (.tuple #[.int .i64 k, .bool hs]) ∧ Below W.heap.size W w' := fun W hb => by
    have := bsf_any a n cp X g c fa fl fc any till W (by have := (h.below hb); rw [hn] at this ⊢; exact this.ent) h.asc
    rw [← hk, ← hhs] at this
    exact this
  have HBS : Hid _ := hbsf
  have hrl := h.lt
  have x0 := h.cell
  have hbox : EBox w (w.alloc (.cells #[.string g, .int .i64 c, .slice fa fl fc, .bool any, .int .i64 till] 32)) w.heap.size g c fa fl fc any till := ⟨heap_alloc_new w _, (Below.refl _ _).alloc (Nat.le_refl _) _⟩
  obtain ⟨W0, hW0⟩ : ∃ W0, W0 = w.alloc (.cells #[.string g, .int .i64 c, .slice fa fl fc, .bool any, .int .i64 till] 32) := ⟨_, rfl⟩
  rw [← hW0] at hbox
  have HB0 : Hid _ := hbox
  obtain ⟨y0, y1, y2, y3, y4⟩ := hbox.cells
  have xr := cgE x0 hbox.bel
  have zl := lt_blk hbox.blk
  have rl0 : r < W0.heap.size := Nat.lt_of_lt_of_le hrl hbox.bel.size
  clear h hf hbsf hn hk hhs hbox
  go_enter Try.func5, Try.ntmps5
  go_upto_region 1 with fail
  rw [← hW0]
  clear hW0 x0
  go_cut [5, 6] (fun x y wx => x = .int .i64 k ∧ y = .bool hs ∧ Hid (EBox w wx w.heap.size g c fa fl fc any till))
  case first =>
    go_region_held3 (fun w' => w'.cell? ⟨w.heap.size, 0, none⟩ = some (.string g) ∧ w'.cell? ⟨w.heap.size, 1, none⟩ = some (.int .i64 c) ∧ w'.cell? ⟨w.heap.size, 2, none⟩ = some (.slice fa fl fc) ∧ w'.cell? ⟨w.heap.size, 3, none⟩ = some (.bool any) ∧ w'.cell? ⟨w.heap.size, 4, none⟩ = some (.int .i64 till) ∧ w'.cell? ⟨r, 0, none⟩ = some (.slice a n cp))
      (first
        | go_keep
        | assumption)
      (first
        | (go_at_call 15; refine Calls.mono (HBS.out _ HB0.out.drew.bel) ?_; rintro e w1 ⟨rfl, hb1⟩
           have hb3 : Below W0.heap.size W0 w1 := ⟨hb1.os, hb1.tape, hb1.output, hb1.size, hb1.block⟩
           have q0 := cgE y0 hb3
           have q1 := cgE y1 hb3
           have q2 := cgE y2 hb3
           have q3 := cgE y3 hb3
           have q4 := cgE y4 hb3
           have qr := cgE xr hb3
           have H5 : Hid (EBox w w1 w.heap.size g c fa fl fc any till) := HB0.out.below hb3
           clear hb1 hb3))
    all_goals (try go_wp2_with fail)
    all_goals go_meet
    all_goals exact ⟨rfl, rfl, H5⟩
  case rest =>
    obtain ⟨rfl, rfl, H1⟩ := hcut
    rename World => w1
    clear HB0 HBS y0 y1 y2 y3 y4 xr zl rl0
    obtain ⟨y0, y1, y2, y3, y4⟩ := H1.out.cells
    have zl := lt_blk H1.out.blk
    have xr := (HT.out.below H1.out.bel).cell
    have rl1 := (HT.out.below H1.out.bel).lt
    have hov : hs = true ∨ (hs = false ∧ ¬ (400 : Int) ≤ (n : Int)) := by
      cases hs with
      | true => exact .inl rfl
      | false => exact .inr ⟨rfl, by rcases hroom with q | q; cases q; omega⟩
    clear hroom
    rcases hov with hh | ⟨hh, hfull⟩
    · subst hh
      go_upto_region 4 with fail
      go_cut [] (fun wx => ∃ fa' fl' fc' any' fs', Hid (EClean w wx w.heap.size g c till (any, fs) fa' fl' fc' any' fs'))
      case first =>
        have hent : EntIn (w1.alloc (.cells #[.string g, .int .i64 c, .slice fa fl fc, .bool any, .int .i64 till] 32)) (some ⟨w1.heap.size, 0, none⟩) 1 [⟨g, c, fa, fl, fc, any, till, fs⟩] := by
          refine ⟨rfl, by omega, .inr ⟨w1.heap.size, 0, rfl, by simp, fun i hi => ?_⟩⟩
          obtain rfl : i = 0 := by omega
          refine ⟨⟨(HF.out.below (Nat.le_refl _) (H1.out.bel.trans ((Below.refl _ _).alloc (by exact H1.out.bel.size) _))), hfl⟩, fun j hj => ?_⟩
          have hbk := heap_alloc_new w1 (.cells #[.string g, .int .i64 c, .slice fa fl fc, .bool any, .int .i64 till] 32)
          simp only [World.cell?, hbk]
          simp [Ep.cells]
        have hbx : EBox w (w1.alloc (.cells #[.string g, .int .i64 c, .slice fa fl fc, .bool any, .int .i64 till] 32)) w.heap.size g c fa fl fc any till := H1.out.below ((Below.refl _ _).alloc (Nat.le_refl _) _)
        have HEN : Hid _ := hent
        have HBX : Hid _ := hbx
        clear hent hbx
        go_wp2_with fail
        refine (join_any _ 1 1 _ _ HEN.out).mono ?_
        rintro e w3 hj
        rcases hj with ⟨hj1, rfl, hb3⟩ | ⟨acc, v3, hj1, rfl, hJ⟩
        · have H3 : Hid (EBox w w3 w.heap.size g c fa fl fc any till) := HBX.out.below hb3
          obtain ⟨u0, u1, u2, u3, u4⟩ := H3.out.cells
          have ul := lt_blk H3.out.blk
          have uf : ∀ o, w3.frozen? ⟨w.heap.size, o, none⟩ = false := fun o => by simp [World.frozen?, H3.out.blk]
          have HJ : Hid (joinE [] [(any, fs)] = none) := hj1
          clear hj1 hb3 y0 y1 y2 y3 y4
          go_wp2_with fail
          go_meet
          refine ⟨none, 0, 0, true, [], (⟨⟨box2_set H3.out.blk, below_set2 H3.out.bel (Nat.le_refl _) _ _⟩, cleanW_none HJ.out, ⟨rfl, .inl rfl⟩, by simp, fun b hb => by cases hb⟩ : EClean _ _ _ _ _ _ _ _ _ _ _ _)⟩
        · obtain ⟨a3, c3, hv3⟩ := hJ.shape
          subst hv3
          have H3 : Hid (EBox w w3 w.heap.size g c fa fl fc any till) := HBX.out.below hJ.bel
          obtain ⟨u0, u1, u2, u3, u4⟩ := H3.out.cells
          have ul := lt_blk H3.out.blk
          have uf : ∀ o, w3.frozen? ⟨w.heap.size, o, none⟩ = false := fun o => by simp [World.frozen?, H3.out.blk]
          have HJ : Hid (joinE [] [(any, fs)] = some acc) := hj1
          have HR : Hid _ := hJ
          clear hj1 hJ y0 y1 y2 y3 y4
          go_wp2_with fail
          go_meet
          have hsz := H1.out.bel.size
          have hz1 : w.heap.size < w1.heap.size := lt_blk H1.out.blk
          have hstr := strIn_own HR.out.row rfl
          have hnew : ∀ b, a3 = some b → w1.heap.size + 1 ≤ b.block ∧ b.block < w3.heap.size := fun b hb => by
            have := HR.out.row.lt b.block (by rw [hb]; rfl)
            simp at this
            exact ⟨by omega, this.2⟩
          refine ⟨a3, acc.length, c3, false, acc, (⟨⟨box2_set H3.out.blk, below_set2 H3.out.bel (Nat.le_refl _) _ _⟩, cleanW_some HJ.out, ?_, HR.out.le, fun b hb => ?_⟩ : EClean _ _ _ _ _ _ _ _ _ _ _ _)⟩
          · refine hstr.at (by simp [World.setCell]) (fun b hb => heap_set2 ?_ _ _)
            have := hnew b hb; omega
          · have := hnew b hb
            refine ⟨by omega, by simp [World.setCell]; omega, by omega⟩
      case rest =>
        obtain ⟨fa', fl', fc', any', fs', H2⟩ := hcut
        rename World => w2
        clear y0 y1 y2 y3 y4 zl xr rl1
        obtain ⟨y0, y1, y2, y3, y4⟩ := H2.out.box.cells
        have zl := lt_blk H2.out.box.blk
        have HT2 : Hid (Tb w2 B r (.slice a n cp) X) := HT.out.below H2.out.box.bel
        have xr := HT2.out.cell
        have rl2 := HT2.out.lt
        have hkey := (lb_hit (ByteArray.empty, (0 : Int)) linK _ HT.out.asc (g, c)).2 ((hasK_iff _ _).1 HS.out)
        rw [HK.out] at hkey
        have hkl : k < n := by have := hkey.1; rw [List.length_map, ← HN.out] at this; exact this
        have HKey : Hid ((X.map Ep.key).getD k (ByteArray.empty, 0) = (g, c)) := hkey.2
        clear hkey
        obtain ⟨gr, ha⟩ : ∃ gr, a = some ⟨gr, 0, none⟩ := by
          rcases HT.out.row.2 with ⟨_, q⟩ | ⟨gr, _, _, hv, _⟩
          · rw [← HN.out] at q; omega
          · simp only [Value.slice.injEq] at hv; exact ⟨gr, hv.1⟩
        subst ha
        have hrow : w2.ownsRow B 32 5 (.slice (some ⟨gr, 0, none⟩) n cp) n (X.flatMap Ep.cells) := by have := HT2.out.row; rw [← HN.out] at this; exact this
        obtain ⟨cur, hcur, hcs⟩ : ∃ cur, w2.heap[gr]? = some (.cells cur 32 (0, 0)) ∧ n * 5 ≤ cur.size := by
          rcases hrow.2 with ⟨q, _⟩ | ⟨gr', cap, cur, hv, _, hg, hnc, _, hcs, _⟩
          · cases q
          · simp only [Value.slice.injEq, Option.some.injEq, Addr.mk.injEq] at hv
            obtain ⟨⟨rfl, _⟩, _, rfl⟩ := hv
            exact ⟨cur, hg, by rw [hcs]; exact Nat.mul_le_mul_right _ hnc⟩
        have hgl := lt_blk hcur
        have f0 : ∀ j, w2.frozen? ⟨gr, j, none⟩ = false := fun j => by simp [World.frozen?, hcur]
        have e0 : ∀ j, j < 5 → (w2.cell? ⟨gr, k * 5 + j, none⟩).isSome = true := fun j hj => by
          have : k * 5 + j < cur.size := by omega
          simp [World.cell?, hcur, this]
        obtain ⟨o0, m0⟩ := Option.isSome_iff_exists.1 (e0 0 (by omega))
        obtain ⟨o1, m1⟩ := Option.isSome_iff_exists.1 (e0 1 (by omega))
        obtain ⟨o2, m2⟩ := Option.isSome_iff_exists.1 (e0 2 (by omega))
        obtain ⟨o3, m3⟩ := Option.isSome_iff_exists.1 (e0 3 (by omega))
        obtain ⟨o4, m4⟩ := Option.isSome_iff_exists.1 (e0 4 (by omega))
        simp only [Nat.add_zero] at m0
        have hne1 : gr ≠ r := fun e => HT2.out.ne (by rw [e]; rfl)
        have hne2 : gr ≠ w.heap.size := by
          have := (HT.out.row.lt gr rfl).2; omega
        have hk0 : (0 : Int) ≤ (k : Int) := Int.natCast_nonneg _
        have hk1 : (k : Int) < (n : Int) := by omega
        have HRow : Hid _ := hrow
        clear hrow hcur hcs e0
        go_wp2_with fail
        go_region
        all_goals
          go_wp2
          go_ret
          have hfx : FilOk w2 r (.slice (some ⟨gr, 0, none⟩) n cp) ⟨g, c, fa', fl', fc', any', till, fs'⟩ := ⟨H2.out.str, H2.out.le, fun b hb => ⟨(H2.out.new b hb).2.1, (by have := (H2.out.new b hb).1; intro e; omega), (by
            have h1 := (H2.out.new b hb).1
            have h2 := (HT.out.row.lt gr rfl).2
            simp [Value.ownBlock]; omega)⟩⟩
          have hset := Tb.set HT2.out HN.out hkl ⟨g, c, fa', fl', fc', any', till, fs'⟩ HKey.out.symm hfx
          have hpe : putE X ⟨g, c, fa', fl', fc', any', till, fs'⟩ = X.set k ⟨g, c, fa', fl', fc', any', till, fs'⟩ := by
            unfold putE; rw [show (Ep.mk g c fa' fl' fc' any' till fs').key = (g, c) from rfl, HS.out, HK.out]; rfl
          exact ⟨rfl, .slice (some ⟨gr, 0, none⟩) n cp, ⟨g, c, fa', fl', fc', any', till, fs'⟩, ⟨rfl, rfl, H2.out.is⟩, by rw [hpe]; exact hset.1, (KT.ofBelow H2.out.box.bel).trans hset.2, fun b hb => (H2.out.new b hb).1⟩
    · subst hh
      go_upto_region 4 with fail
      go_cut [] (fun wx => ∃ fa' fl' fc' any' fs', Hid (EClean w wx w.heap.size g c till (any, fs) fa' fl' fc' any' fs'))
      case first =>
        have hent : EntIn (w1.alloc (.cells #[.string g, .int .i64 c, .slice fa fl fc, .bool any, .int .i64 till] 32)) (some ⟨w1.heap.size, 0, none⟩) 1 [⟨g, c, fa, fl, fc, any, till, fs⟩] := by
          refine ⟨rfl, by omega, .inr ⟨w1.heap.size, 0, rfl, by simp, fun i hi => ?_⟩⟩
          obtain rfl : i = 0 := by omega
          refine ⟨⟨(HF.out.below (Nat.le_refl _) (H1.out.bel.trans ((Below.refl _ _).alloc (by exact H1.out.bel.size) _))), hfl⟩, fun j hj => ?_⟩
          have hbk := heap_alloc_new w1 (.cells #[.string g, .int .i64 c, .slice fa fl fc, .bool any, .int .i64 till] 32)
          simp only [World.cell?, hbk]
          simp [Ep.cells]
        have hbx : EBox w (w1.alloc (.cells #[.string g, .int .i64 c, .slice fa fl fc, .bool any, .int .i64 till] 32)) w.heap.size g c fa fl fc any till := H1.out.below ((Below.refl _ _).alloc (Nat.le_refl _) _)
        have HEN : Hid _ := hent
        have HBX : Hid _ := hbx
        clear hent hbx
        go_wp2_with fail
        refine (join_any _ 1 1 _ _ HEN.out).mono ?_
        rintro e w3 hj
        rcases hj with ⟨hj1, rfl, hb3⟩ | ⟨acc, v3, hj1, rfl, hJ⟩
        · have H3 : Hid (EBox w w3 w.heap.size g c fa fl fc any till) := HBX.out.below hb3
          obtain ⟨u0, u1, u2, u3, u4⟩ := H3.out.cells
          have ul := lt_blk H3.out.blk
          have uf : ∀ o, w3.frozen? ⟨w.heap.size, o, none⟩ = false := fun o => by simp [World.frozen?, H3.out.blk]
          have HJ : Hid (joinE [] [(any, fs)] = none) := hj1
          clear hj1 hb3 y0 y1 y2 y3 y4
          go_wp2_with fail
          go_meet
          refine ⟨none, 0, 0, true, [], (⟨⟨box2_set H3.out.blk, below_set2 H3.out.bel (Nat.le_refl _) _ _⟩, cleanW_none HJ.out, ⟨rfl, .inl rfl⟩, by simp, fun b hb => by cases hb⟩ : EClean _ _ _ _ _ _ _ _ _ _ _ _)⟩
        · obtain ⟨a3, c3, hv3⟩ := hJ.shape
          subst hv3
          have H3 : Hid (EBox w w3 w.heap.size g c fa fl fc any till) := HBX.out.below hJ.bel
          obtain ⟨u0, u1, u2, u3, u4⟩ := H3.out.cells
          have ul := lt_blk H3.out.blk
          have uf : ∀ o, w3.frozen? ⟨w.heap.size, o, none⟩ = false := fun o => by simp [World.frozen?, H3.out.blk]
          have HJ : Hid (joinE [] [(any, fs)] = some acc) := hj1
          have HR : Hid _ := hJ
          clear hj1 hJ y0 y1 y2 y3 y4
          go_wp2_with fail
          go_meet
          have hsz := H1.out.bel.size
          have hz1 : w.heap.size < w1.heap.size := lt_blk H1.out.blk
          have hstr := strIn_own HR.out.row rfl
          have hnew : ∀ b, a3 = some b → w1.heap.size + 1 ≤ b.block ∧ b.block < w3.heap.size := fun b hb => by
            have := HR.out.row.lt b.block (by rw [hb]; rfl)
            simp at this
            exact ⟨by omega, this.2⟩
          refine ⟨a3, acc.length, c3, false, acc, (⟨⟨box2_set H3.out.blk, below_set2 H3.out.bel (Nat.le_refl _) _ _⟩, cleanW_some HJ.out, ?_, HR.out.le, fun b hb => ?_⟩ : EClean _ _ _ _ _ _ _ _ _ _ _ _)⟩
          · refine hstr.at (by simp [World.setCell]) (fun b hb => heap_set2 ?_ _ _)
            have := hnew b hb; omega
          · have := hnew b hb
            refine ⟨by omega, by simp [World.setCell]; omega, by omega⟩
      case rest =>
        obtain ⟨fa', fl', fc', any', fs', H2⟩ := hcut
        rename World => w2
        clear y0 y1 y2 y3 y4 zl xr rl1
        obtain ⟨y0, y1, y2, y3, y4⟩ := H2.out.box.cells
        have zl := lt_blk H2.out.box.blk
        have HT2 : Hid (Tb w2 B r (.slice a n cp) X) := HT.out.below H2.out.box.bel
        have xr := HT2.out.cell
        have rl2 := HT2.out.lt
        have hnot : (g, c) ∉ X.map Ep.key := fun q => by have := (hasK_iff _ _).2 q; rw [HS.out] at this; cases this
        have HNot : Hid _ := hnot
        have hkl : k ≤ n := by rw [← HK.out, HN.out]; have := lb_le (lt := ltK) (X.map Ep.key) (g, c); simpa using this
        have hfx : FilOk w2 r (.slice a n cp) ⟨g, c, fa', fl', fc', any', till, fs'⟩ := ⟨H2.out.str, H2.out.le, fun b hb => ⟨(H2.out.new b hb).2.1, (by have := (H2.out.new b hb).1; intro e; omega), (fun e => by
          have h1 := (H2.out.new b hb).1
          have h2 := (HT.out.row.lt _ e).2
          omega)⟩⟩
        have HFX : Hid _ := hfx
        have hins := insEnt_any B (.slice a n cp) n k (X.flatMap Ep.cells) (Ep.cells ⟨g, c, fa', fl', fc', any', till, fs'⟩) w2.heap.size (w2.drew.alloc (.cells #[.string g, .int .i64 c, .slice fa' fl' fc', .bool any', .int .i64 till] 32))
          (row_atJ (by have := HT2.out.row; rw [← HN.out] at this; exact this) (fun b hb => Below.heap_alloc w2.drew _ _ (HT2.out.row.lt b hb).2)) hkl (by omega)
          (fun v hv => by
            obtain ⟨y, _, hy⟩ := List.mem_flatMap.1 hv
            simp only [Ep.cells, List.mem_cons, List.not_mem_nil, or_false] at hy
            rcases hy with rfl | rfl | rfl | rfl | rfl <;> rfl)
          (heap_alloc_new w2.drew _) (fun e => by have := (HT2.out.row.lt _ e).2; omega) rfl
          (fun v hv => by
            simp only [Ep.cells, List.mem_cons, List.not_mem_nil, or_false] at hv
            rcases hv with rfl | rfl | rfl | rfl | rfl <;> rfl) (by have := H2.out.box.bel.size; simp; omega)
        have HI : Hid _ := hins
        have HBW : Hid (Below w2.heap.size w2 (w2.drew.alloc (.cells #[.string g, .int .i64 c, .slice fa' fl' fc', .bool any', .int .i64 till] 32))) := ⟨rfl, rfl, rfl, by simp, fun b hb => Below.heap_alloc w2.drew _ b hb⟩
        clear hnot hfx hins
        go_wp2_with fail
        go_region_law
          (first
            | (go_simp; go_at_call 17; refine Calls.mono HI.out ?_; rintro e w3 ⟨v3, rfl, ha3⟩
               have hbx3 : w3.heap[r]? = some (.cells #[.slice a n cp] 26 (0, 0)) := (ha3.grown.block r (by simp; omega) (fun e => HT2.out.ne e.symm)).trans ((HBW.out.block r rl2).trans HT2.out.box)
               have hc3 : w3.cell? ⟨r, 0, none⟩ = some (.slice a n cp) := by simp [World.cell?, hbx3]
               have hf3 : w3.frozen? ⟨r, 0, none⟩ = false := by simp [World.frozen?, hbx3]
               have hl3 := lt_blk hbx3
               obtain ⟨a3, c3, hv3⟩ := ha3.shape
               subst hv3
               have HA : Hid _ := ha3
               clear ha3 hbx3))
        all_goals
          go_wp2
          go_ret
          have hin := Tb.ins HT2.out HBW.out ⟨g, c, fa', fl', fc', any', till, fs'⟩ HK.out.symm HNot.out HFX.out (by rw [← HN.out]; omega) (by rw [← HN.out]; exact HA.out)
          have hpe : putE X ⟨g, c, fa', fl', fc', any', till, fs'⟩ = X.take k ++ [⟨g, c, fa', fl', fc', any', till, fs'⟩] ++ X.drop k := by
            unfold putE; rw [show (Ep.mk g c fa' fl' fc' any' till fs').key = (g, c) from rfl, HS.out, HK.out]; rfl
          exact ⟨rfl, _, ⟨g, c, fa', fl', fc', any', till, fs'⟩, ⟨rfl, rfl, H2.out.is⟩, by rw [hpe]; exact hin.1, (KT.ofBelow H2.out.box.bel).trans hin.2, fun b hb => (H2.out.new b hb).1⟩
end Go.Proofs.Ytffdknjocmfmfaa
