/- A ring, and beside it a list of one's own that grows. -/
import Derived.Test.YtgpamiggdeopbabChAll
import Derived.Test.YtgpamiggdeopbabOwnSrc
namespace Go.Proofs.Ytgpamiggdeopbab
open Go.ChangeShapes Go.WideShapes Go.ChangeAt Go.RowKit Go.Deep
set_option linter.unusedVariables false

/-- What grows beside the ring, in a block that its lists keep clear of, or in a new one. -/
theorem RingAt.grow {w w' : World} {r gp gk : Nat} {R : Rg} {og : Option Nat} (h : RingAt w r gp gk R) (hl : ∀ k p, R.kn k = some p → p.succ.length = 3) (hs : w.heap.size ≤ w'.heap.size)
    (hb : ∀ b, b < w.heap.size → og ≠ some b → w'.heap[b]? = w.heap[b]?) (hg : ∀ g, og = some g → R.cl g ∧ r ≠ g ∧ gp ≠ g ∧ gk ≠ g) (D : Nat → Prop) (hD : ∀ b, D b → (R.cl b ∨ w.heap.size ≤ b) ∧ b < w'.heap.size) : RingAt w' r gp gk (R.withCl D) := by
  obtain ⟨mp, hp, hp'⟩ := h.places
  obtain ⟨mk, hk, hk'⟩ := h.known
  have hlt := h.lt
  have n1 : og ≠ some r := fun e => (hg r e).2.1 rfl
  have n2 : og ≠ some gp := fun e => (hg gp e).2.2.1 rfl
  have n3 : og ≠ some gk := fun e => (hg gk e).2.2.2 rfl
  refine ⟨(hb r hlt.1 n1).trans h.box, h.ne, ⟨mp, hp.of_block (hb gp hlt.2.1 n2), hp'⟩, ⟨mk, hk.of_block (hb gk hlt.2.2 n3), fun k => ?_⟩, h.ids, fun b e => (hD b e).2⟩
  have q := hk' k
  show KnOk w' D (R.kn k) (look mk k)
  cases hp : R.kn k with
  | none =>
    cases hv : look mk k with
    | none => exact trivial
    | some v => rw [hp, hv] at q; exact q.elim
  | some p =>
    cases hv : look mk k with
    | none => rw [hp, hv] at q; exact q.elim
    | some v =>
      rw [hp, hv] at q
      obtain ⟨a, len, cap, e, hpe, hd⟩ := q
      have h3 := hl k p hp
      have h4 := hpe.row.1
      rcases hpe.row.2.2 with h0 | ⟨b, o, ha, hlt, hc⟩
      · omega
      · have hbg : og ≠ some b := fun e => hd _ ha (hg b e).1
        refine ⟨a, len, cap, e, ⟨hpe.hid, hpe.hpred, ⟨hpe.row.1, hpe.row.2.1, .inr ⟨b, o, ha, Nat.lt_of_lt_of_le hlt hs, fun i hi => ⟨(hc i hi).1, fun j hj => ?_⟩⟩⟩, hpe.hcap, hpe.hmost, hpe.hnil⟩, fun x hx hcl => ?_⟩
        · rw [World.cell?_of_block (hb b hlt hbg)]
          exact (hc i hi).2 j hj
        · rw [ha] at hx
          cases hx
          rcases (hD b hcl).1 with q | q
          · exact hd _ ha q
          · omega

structure Rw (w wr : World) (B r gp gk : Nat) (gv : Value) (G : List Int) (R : Rg) : Prop where
  rn : Rn w wr r gp gk R
  row : wr.ownsRow B 3 1 gv G.length (G.map cellI)
  cl : ∀ g, gv.ownBlock = some g → R.cl g
  lr : r < B
  lp : gp < B
  lk : gk < B
  lB : B ≤ wr.heap.size
theorem own_block {w : World} {B n : Nat} {e : TypeId} {v : Value} {xs : List Value} (h : w.ownsRow B e 1 v n xs) {g : Nat} (hg : v.ownBlock = some g) : B ≤ g := by
  rcases h.2 with ⟨h0, h1⟩ | ⟨k, cap, cur, hv, hb, _⟩
  · rw [h0] at hg; simp [Value.ownBlock] at hg
  · rw [hv] at hg; simp [Value.ownBlock] at hg; omega
theorem Rw.below {w wr w' : World} {B r gp gk : Nat} {gv : Value} {G : List Int} {R : Rg} (h : Rw w wr B r gp gk gv G R) (hb : Below wr.heap.size wr w') : Rw w w' B r gp gk gv G R :=
  ⟨h.rn.below hb, h.row.kept (row := none) ⟨hb.os, hb.tape, hb.output, hb.size, fun b hb1 _ => hb.block b hb1⟩ (by cases HH : Value.ownBlock _ <;> simp), h.cl, h.lr, h.lp, h.lk, Nat.le_trans h.lB hb.size⟩
theorem own_int {w : World} {B n : Nat} {a : Option Addr} {c : Nat} {l : List Int} (h : w.ownsRow B 3 1 (.slice a n c) n (l.map cellI)) {i : Nat} (hi : i < n) : ∃ g, a = some ⟨g, 0, none⟩ ∧ B ≤ g ∧ g < w.heap.size ∧ w.cell? ⟨g, i, none⟩ = some (.int .i64 (l.getD i 0)) := by
  have hl : l.length = n := by have := h.1; simpa using this
  rcases h.2 with ⟨h0, h1⟩ | ⟨g, cap, cur, hv, hb, hg, hnc, _⟩
  · omega
  · simp at hv
    obtain ⟨rfl, rfl⟩ := hv
    have hil : i < l.length := by omega
    have e := h.cells (g := g) rfl i (cellI l[i]) (by simp [hil])
    have ea : (⟨g, 0, none⟩ : Addr).add i = ⟨g, i, none⟩ := by unfold Addr.add; split <;> simp_all
    rw [ea] at e
    refine ⟨g, rfl, hb, cell_block e, ?_⟩
    rw [e]
    simp [List.getD, hil, cellI]
theorem u64_one : u64 1 := by simp [u64]
theorem i64_zero : i64 0 := by simp [i64]
theorem own_kp {w w' : World} {B gp gk n : Nat} {e : TypeId} {v : Value} {xs : List Value} (h : w.ownsRow B e 1 v n xs) (k : Kp w w' gp gk) (h1 : gp < B) (h2 : gk < B) : w'.ownsRow B e 1 v n xs := by
  refine ⟨h.1, ?_⟩
  rcases h.2 with h0 | ⟨g, cap, cur, hv, hb, hg, r⟩
  · exact .inl h0
  · have hlt : g < w.heap.size := by
      rcases Nat.lt_or_ge g w.heap.size with q | q
      · exact q
      · rw [Array.getElem?_eq_none q] at hg; cases hg
    exact .inr ⟨g, cap, cur, hv, hb, (k.block g hlt (by omega) (by omega)).trans hg, r⟩
theorem Rw.step {w wr w' : World} {B r gp gk : Nat} {gv : Value} {G : List Int} {R R' : Rg} (h : Rw w wr B r gp gk gv G R) (hr : RingAt w' r gp gk R') (hi : Inv R') (k : Kp wr w' gp gk) (hc : R'.cl = R.cl) : Rw w w' B r gp gk gv G R' :=
  ⟨h.rn.step hr hi k, own_kp h.row k h.lp h.lk, by rw [hc]; exact h.cl, h.lr, h.lp, h.lk, Nat.le_trans h.lB k.size⟩
theorem Rw.append {w wr w' : World} {B r gp gk : Nat} {gv gv' : Value} {G : List Int} {R : Rg} {n : Int} (h : Rw w wr B r gp gk gv G R) (ha : Appended B 3 wr w' gv gv' (G.length + 1) (G.map cellI ++ [cellI n])) :
    Rw w w' B r gp gk gv' (G ++ [n]) (R.withCl (fun b => gv'.ownBlock = some b)) := by
  have hg := ha.grown
  have hsz : ∀ b, gv'.ownBlock = some b → b < w'.heap.size := fun b hb => (World.ownsRow.lt ha.row b hb).2
  have ne : ∀ g, gv.ownBlock = some g → B ≤ g := fun g e => own_block h.row e
  have hB : w.heap.size ≤ B := by have := h.rn.gp; have := h.lp; omega
  refine ⟨⟨h.rn.ring.grow (og := gv.ownBlock) h.rn.inv.lens hg.size (fun b hb hn => hg.block b hb (fun e => hn e.symm)) (fun g e => ⟨h.cl g e, ?_, ?_, ?_⟩) _ (fun b hb => ⟨?_, hsz b hb⟩), h.rn.inv.withCl _, ?_, h.rn.gp, h.rn.gk⟩, ?_, fun g e => e, h.lr, h.lp, h.lk, Nat.le_trans h.lB hg.size⟩
  · have := ne g e; have := h.lr; omega
  · have := ne g e; have := h.lp; omega
  · have := ne g e; have := h.lk; omega
  · rcases ha.new b hb with q | q
    · exact .inl (h.cl b q)
    · exact .inr q
  · exact h.rn.bel.trans ⟨hg.os, hg.tape, hg.output, hg.size, fun b hb => hg.block b (by have := h.rn.bel.size; omega) (fun e => by have := ne b e.symm; omega)⟩
  · have hr := ha.row
    simpa using hr
/-- A list of one's own, just begun. -/
theorem Rw.start {w w2 : World} {r gp gk : Nat} {R : Rg} (h : Rn w w2 r gp gk R) : Rw w (w2.alloc (.cells #[] 3)) w2.heap.size r gp gk (.slice (some ⟨w2.heap.size, 0, none⟩) 0 0) [] (R.withCl (fun b => b = w2.heap.size)) := by
  have hb := below_one w2 (.cells #[] 3)
  have hlt := h.ring.lt
  refine ⟨⟨h.ring.fresh h.inv.lens hb (Nat.le_refl _) (by simp), h.inv.withCl _, h.bel.trans (hb.mono h.bel.size), h.gp, h.gk⟩, ⟨rfl, .inr ⟨w2.heap.size, 0, #[], rfl, Nat.le_refl _, heap_alloc_new w2 _, Nat.le_refl _, by decide, rfl, rfl⟩⟩, fun g e => ?_, hlt.1, hlt.2.1, hlt.2.2, by simp⟩
  simp [Value.ownBlock] at e
  exact e.symm
end Go.Proofs.Ytgpamiggdeopbab
