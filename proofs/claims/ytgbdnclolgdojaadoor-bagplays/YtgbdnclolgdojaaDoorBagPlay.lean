/- BagPlays: the bag and the document's bag side by side: what each call does to both. -/
import Derived.Test.YtgbdnclolgdojaaDoorBagRef3
import Derived.Test.YtgbdnclolgdojaaDoorOfCode
namespace Go.Proofs.YtgbdnclolgdojaaDoor
open Go.ChangeShapes Go.WideShapes Go.ChangeAt Go.RowKit
set_option linter.unusedVariables false

/-- The bag (g) at block w.heap.size, the document's (h) in the box behind it. -/
structure Pl (w wr : World) (g h : Bg) (v : Value) (a : Option Addr) (c : Nat) : Prop where
  ok : g.ok
  bag : BagAt w.heap.size wr w.heap.size v g
  vx : v.ownBlock ≠ some (w.heap.size + 1)
  box : wr.heap[w.heap.size + 1]? = some (.cells #[.int .i64 h.last, .slice a h.ps.length c] 28 (0, 0))
  row : RowAt wr a h.ps
  far : 0 < h.ps.length → ∀ x, a = some x → w.heap.size + 2 ≤ x.block ∧ v.ownBlock ≠ some x.block
  et : ErrType wr
  bel : Below w.heap.size w wr
  pos : 0 < w.heap.size
theorem Pl.lt {w wr : World} {g h : Bg} {v : Value} {a : Option Addr} {c : Nat} (hp : Pl w wr g h v a c) : w.heap.size + 1 < wr.heap.size := lt_of_block hp.box
theorem Pl.below {w wr w' : World} {g h : Bg} {v : Value} {a : Option Addr} {c : Nat} (hp : Pl w wr g h v a c) (hb : Below wr.heap.size wr w') : Pl w w' g h v a c :=
  ⟨hp.ok, hp.bag.below hb, hp.vx, (hb.block _ hp.lt).trans hp.box, hp.row.below hb, hp.far, hp.et.below (by have := hp.lt; omega) hb, hp.bel.trans (hb.mono hp.bel.size), hp.pos⟩
theorem Pl.alloc {w wr : World} {g h : Bg} {v : Value} {a : Option Addr} {c : Nat} (hp : Pl w wr g h v a c) (o : Obj) : Pl w (wr.alloc o) g h v a c := hp.below ((Below.refl _ _).alloc (Nat.le_refl _) o)
theorem Pl.drew {w wr : World} {g h : Bg} {v : Value} {a : Option Addr} {c : Nat} (hp : Pl w wr g h v a c) : Pl w wr.drew g h v a c := hp.below (w' := wr.drew) ⟨rfl, rfl, rfl, Nat.le_refl _, fun _ _ => rfl⟩
/-- A call on the bag. -/
theorem Pl.kept {w wr w' : World} {g g' h : Bg} {v v' : Value} {a : Option Addr} {c : Nat} (hp : Pl w wr g h v a c) (hk : Kept wr w' w.heap.size v v') (hA : BagAt w.heap.size w' w.heap.size v' g') (ho : g'.ok) : Pl w w' g' h v' a c := by
  have hlt := hp.lt
  have hbel := hk.belowB hp.bag hp.bel hp.bel.size
  refine ⟨ho, hA, fun e => ?_, (hk.block _ hlt (by omega) (fun e => hp.vx e.symm)).trans hp.box, fun h0 => ?_, fun h0 x hx => ⟨(hp.far h0 x hx).1, fun e => ?_⟩, ?_, hbel, hp.pos⟩
  · rcases hk.own _ e with h1 | h1
    · exact hp.vx h1
    · omega
  · obtain ⟨gg, ha, R⟩ := hp.row h0
    have hf := hp.far h0 _ ha
    have h1 : w.heap.size + 2 ≤ gg := hf.1
    have h2 : v.ownBlock ≠ some gg := hf.2
    exact ⟨gg, ha, R.carry hk.size (hk.block gg R.lt (by omega) (fun e => h2 e.symm))⟩
  · rcases hk.own _ e with h1 | h1
    · exact (hp.far h0 x hx).2 h1
    · obtain ⟨gg, ha, R⟩ := hp.row h0
      rw [ha] at hx
      obtain rfl := Option.some.inj hx
      have h2 := R.lt
      have h3 : wr.heap.size ≤ gg := h1
      omega
  · have h0 := hp.pos
    have : w'.heap[0]? = wr.heap[0]? := hk.block 0 (by omega) (by omega) (fun e => by have := (hp.bag.row.lt 0 e.symm).1; omega)
    exact (World.cell?_of_block this).trans hp.et
/-- The document's bag is laid anew. -/
theorem Pl.setX {w wr : World} {g h h' : Bg} {v : Value} {a a' : Option Addr} {c : Nat} (c' : Nat) (hp : Pl w wr g h v a c) (hR : RowAt wr a' h'.ps) (hf : 0 < h'.ps.length → ∀ x, a' = some x → w.heap.size + 2 ≤ x.block ∧ v.ownBlock ≠ some x.block) :
    Pl w ((wr.setCell ⟨w.heap.size + 1, 0, none⟩ (.int .i64 h'.last)).setCell ⟨w.heap.size + 1, 1, none⟩ (.slice a' h'.ps.length c')) g h' v a' c' := by
  have hblk : ∀ k, k ≠ w.heap.size + 1 → ((wr.setCell ⟨w.heap.size + 1, 0, none⟩ (.int .i64 h'.last)).setCell ⟨w.heap.size + 1, 1, none⟩ (.slice a' h'.ps.length c')).heap[k]? = wr.heap[k]? := fun k hk =>
    (Below.heap_setCell _ _ _ _ (by simpa using hk)).trans (Below.heap_setCell _ _ _ _ (by simpa using hk))
  refine ⟨hp.ok, (hp.bag.other _ _ (by simp) hp.vx).other _ _ (by simp) hp.vx, hp.vx, two_set1 (two_set0 hp.box _) _, fun h0 => ?_, hf, ?_, (hp.bel.setCell (by simp) _).setCell (by simp) _, hp.pos⟩
  · obtain ⟨gg, ha, R⟩ := hR h0
    have h1 : w.heap.size + 2 ≤ gg := (hf h0 _ ha).1
    exact ⟨gg, ha, R.carry (by simp [World.setCell]) (hblk gg (by omega))⟩
  · exact (World.cell?_of_block (hblk 0 (by omega))).trans hp.et
/-- A row that was laid from block B on is far from what the bag had then. -/
theorem Pl.fresh {w wr : World} {g h : Bg} {v : Value} {a a' : Option Addr} {c : Nat} (hp : Pl w wr g h v a c) (hx : ∀ x, a' = some x → wr.heap.size + 2 ≤ x.block) : ∀ x, a' = some x → w.heap.size + 2 ≤ x.block ∧ v.ownBlock ≠ some x.block := fun x e =>
  ⟨by have := hx x e; have := hp.lt; omega, fun e2 => by have := hx x e; have := (hp.bag.row.lt _ e2).2; omega⟩
theorem pl_new (w : World) (hE : ErrType w) : Pl w ((w.alloc (.cells #[.slice none 0 0, .int .i64 0] 25)).alloc (.cells #[.int .i64 0, .slice none 0 0] 28)) bg0 bg0 (.slice none 0 0) none 0 := by
  have e1 := heap_alloc_new (w.alloc (.cells #[.slice none 0 0, .int .i64 0] 25)) (.cells #[.int .i64 0, .slice none 0 0] 28)
  rw [show (w.alloc (.cells #[.slice none 0 0, .int .i64 0] 25)).heap.size = w.heap.size + 1 by simp] at e1
  have hb : Below w.heap.size w ((w.alloc (.cells #[.slice none 0 0, .int .i64 0] 25)).alloc (.cells #[.int .i64 0, .slice none 0 0] 28)) := ((Below.refl _ _).alloc (Nat.le_refl _) _).alloc (by simp) _
  exact ⟨bg0_ok, (BagAt.new w _ (Nat.le_refl _)).alloc _, by simp [Value.ownBlock], e1, fun h => absurd h (by simp [bg0]), fun h => absurd h (by simp [bg0]), hE.below hE.lt hb, hb, hE.lt⟩
theorem pl_all {w wr : World} {g h : Bg} {v : Value} {a : Option Addr} {c : Nat} (hp : Pl w wr g h v a c) :
    Calls Tryd.prog 18 #[.pointer (some ⟨w.heap.size, 0, none⟩)] wr fun e w' => ∃ (a2 : Option Addr) (c2 : Nat), e = .returned (.slice a2 g.ps.length c2) ∧ RowAt w' a2 g.ps ∧ Pl w w' g h v a c ∧ Below wr.heap.size wr w' := by
  refine (all_any _ _ v g wr hp.bag hp.ok.len).mono ?_
  rintro e w' ⟨v', rfl, hrow, hb⟩
  rcases pkrow_of hrow with ⟨a', c', e1, e2⟩ | ⟨gg, c', e1, _, _, R, _⟩
  · exact ⟨a', c', by rw [e1, e2]; rfl, fun h0 => by rw [e2] at h0; simp at h0, hp.below hb, hb⟩
  · exact ⟨_, c', by rw [e1], fun _ => ⟨gg, rfl, R⟩, hp.below hb, hb⟩
end Go.Proofs.YtgbdnclolgdojaaDoor
