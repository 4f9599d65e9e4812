/- tree.Tree.below in memory: rows of those that tell one, in a map. -/
import Derived.Test.YtkkkldglceiiiaaGreatTrBelM
import Derived.Test.YtkkkldglceiiiaaGreatTrRow
import Derived.Test.YtkkkldglceiiiaaGreatChMap
namespace Go.Proofs.YtkkkldglceiiiaaGreat
open Go.ChangeShapes Go.WideShapes Go.ChangeAt Go.RowKit Go.Deep
open Go.ChangeMaps (setBlock)
set_option linter.unusedVariables false

def rowOf (rows : List (Int × Value)) (k : Int) : Value := (look rows k).getD (.slice none 0 0)
/-- On the way: Di came already, and those of D lie in rows by whom they tell. -/
structure Bw (W wr : World) (B g r hh : Nat) (up : List (Int × Int)) (Di D : List Int) (rows : List (Int × Value)) : Prop where
  it : ItK kvI wr g r (upV up) Di
  bel : Below W.heap.size W wr
  lo : W.heap.size ≤ r ∧ W.heap.size ≤ B ∧ W.heap.size ≤ hh
  ne : hh ≠ r ∧ hh ≠ g
  mp : MpAt wr hh rows
  row : ∀ k v, look rows k = some v → wr.ownsRow B 3 1 v (chl up D k).length ((chl up D k).map cellI)
  off : ∀ k v, look rows k = some v → ∀ x, v.ownBlock = some x → x ≠ r
  dis : ∀ k v k' v', look rows k = some v → look rows k' = some v' → k ≠ k' → ∀ x, v.ownBlock = some x → v'.ownBlock ≠ some x
  dn : D.Nodup
  dm : ∀ k ∈ D, k ∈ up.map (·.1)
  ks : ∀ k, look rows k = none → chl up D k = []
section
variable {W wr : World} {B g r hh : Nat} {up : List (Int × Int)} {Di D : List Int} {rows : List (Int × Value)}
theorem Bw.get (h : Bw W wr B g r hh up Di D rows) (k : Int) : wr.ownsRow B 3 1 (rowOf rows k) (chl up D k).length ((chl up D k).map cellI) := by
  unfold rowOf
  cases hq : look rows k with
  | none => rw [h.ks k hq]; exact World.ownsRow_nil _ _ _ _
  | some v => exact h.row k v hq
theorem Bw.len (h : Bw W wr B g r hh up Di D rows) : D.length ≤ up.length := by
  have := nodup_le D (up.map (·.1)) h.dn h.dm
  rw [List.length_map] at this
  exact this
theorem Bw.lt (h : Bw W wr B g r hh up Di D rows) {k : Int} (hm : k ∈ up.map (·.1)) (hk : k ∉ D) : D.length < up.length := by
  have h2 := nodup_le (D ++ [k]) (up.map (·.1)) (List.nodup_append.2 ⟨h.dn, by simp, fun a ha b hb e => by simp at hb; subst hb; subst e; exact hk ha⟩) (fun x hx => by
    rcases List.mem_append.1 hx with q | q
    · exact h.dm x q
    · simp at q; subst q; exact hm)
  simp at h2
  omega
theorem own_cells {w : World} {v : Value} {n : Nat} {xs : List Value} (h : w.ownsRow B 3 1 v n xs) {x : Nat} (hx : v.ownBlock = some x) : ∃ cs, w.heap[x]? = some cs ∧ ∀ es c, cs ≠ .map es c := by
  rcases h.2 with ⟨hv, _⟩ | ⟨g2, _, _, hv, _, hg2, _⟩
  · rw [hv] at hx; cases hx
  · rw [hv] at hx
    have e : g2 = x := by simpa [Value.ownBlock] using hx
    subst e
    exact ⟨_, hg2, fun es c e => by cases e⟩
theorem own_not_map {w : World} {v : Value} {n : Nat} {xs : List Value} (h : w.ownsRow B 3 1 v n xs) {m : List (Int × Value)} (hm : MpAt w hh m) : v.ownBlock ≠ some hh := fun hx => by
  obtain ⟨cs, h1, h2⟩ := own_cells h hx
  obtain ⟨_, es, c, hb, _⟩ := hm
  rw [hb] at h1
  exact h2 es c (Option.some.inj h1).symm
theorem own_not_mapK {w : World} {v : Value} {n : Nat} {xs : List Value} (h : w.ownsRow B 3 1 v n xs) {m : List (Int × Value)} (hm : MpK kvI w g m) : v.ownBlock ≠ some g := fun hx => by
  obtain ⟨cs, h1, h2⟩ := own_cells h hx
  obtain ⟨_, es, c, hb, _⟩ := hm
  rw [hb] at h1
  exact h2 es c (Option.some.inj h1).symm
theorem Bw.next (h : Bw W wr B g r hh up D D rows) :
    ((∀ k ∈ up.map (·.1), k ∈ D) ∧ ∀ ty, (Instr.next (.pointer (some ⟨r, 0, none⟩)) false ty).run Tryz.prog wr = .ok (.tuple #[.bool false]) wr) ∨
    ∃ k x w5, lookI up k = some x ∧ (∀ ty, (Instr.next (.pointer (some ⟨r, 0, none⟩)) false ty).run Tryz.prog wr = .ok (.tuple #[.bool true, .int .i64 k, .int .i64 x]) w5) ∧
      (Instr.entry (.pointer (some ⟨r, 0, none⟩))).run Tryz.prog w5 = .ok (.tuple #[.int .i64 k, .int .i64 x]) w5 ∧ Bw W w5 B g r hh up (D ++ [k]) D rows ∧ k ∈ up.map (·.1) ∧ k ∉ D := by
  rcases h.it.next (P := Tryz.prog) with ⟨hall, hrun⟩ | ⟨k, x, w5, hkm, hkD, hrun, hit5, hent, w5', o5, hw5', hw5⟩
  · refine .inl ⟨fun k hk => ?_, hrun⟩
    rw [← upV_keys] at hk
    obtain ⟨p, hp, rfl⟩ := List.mem_map.1 hk
    exact hall p hp
  · obtain ⟨y, rfl, hy⟩ := upV_mem hkm
    have hnd : (up.map (·.1)).Nodup := by rw [← upV_keys]; exact h.it.nodup
    have hblk : ∀ b, b ≠ r → w5.heap[b]? = wr.heap[b]? := fun b hb => by
      rw [hw5, setB_other hb]
      rcases hw5' with rfl | rfl <;> rfl
    refine .inr ⟨k, y, w5, lookI_mem hnd hy, hrun, hent, ⟨hit5, ?_, h.lo, h.ne, h.mp.of_block (hblk _ h.ne.1), fun k v hv => row_at (h.row k v hv) (fun z hz => hblk z (h.off k v hv z hz)), h.off, h.dis, h.dn, h.dm, h.ks⟩, List.mem_map.2 ⟨_, hy, rfl⟩, hkD⟩
    rw [hw5]
    refine setB_below ?_ h.lo.1 _
    rcases hw5' with rfl | rfl
    · exact h.bel
    · exact h.bel.trans (show Below W.heap.size wr wr.drew from ⟨rfl, rfl, rfl, Nat.le_refl _, fun _ _ => rfl⟩)
theorem setMap_other {w : World} {b : Nat} (hb : b ≠ hh) (o : Obj) : (setMap w hh o).heap[b]? = w.heap[b]? := by simp [setMap, Array.getElem?_setIfInBounds_ne (Ne.symm hb)]
/-- One more comes into its row. -/
theorem Bw.take {k : Int} (h : Bw W wr B g r hh up (D ++ [k]) D rows) {x : Int} (hx : lookI up k = some x) (hm : k ∈ up.map (·.1)) (hkD : k ∉ D) (o : Obj) {w6 : World} {v' : Value}
    (ha : Appended B 3 (wr.alloc o) w6 (rowOf rows x) v' ((chl up D x).length + 1) ((chl up D x).map cellI ++ [cellI k])) :
    ∃ w7, (Instr.mapUpdate 87 (.map (some hh)) (.int .i64 x) v').run Tryz.prog w6 = .ok () w7 ∧ Bw W w7 B g r hh up (D ++ [k]) (D ++ [k]) (put rows x v') := by
  have hg := ha.grown
  have hr0 := h.get x
  have hoff : ∀ z, (rowOf rows x).ownBlock = some z → z ≠ r := fun z hz => by
    unfold rowOf at hz
    cases hq : look rows x with
    | none => rw [hq] at hz; cases hz
    | some v => rw [hq] at hz; exact h.off x v hq z hz
  have hgb : ∀ b, b < wr.heap.size → (rowOf rows x).ownBlock ≠ some b → w6.heap[b]? = wr.heap[b]? := fun b hb hv => (hg.block b (by simp; omega) (fun e => hv e.symm)).trans (Below.heap_alloc _ _ _ hb)
  have hgl := h.it.mp.lt
  have hrl := h.it.lt
  have hhl := h.mp.lt
  have h6 : MpAt w6 hh rows := h.mp.of_block (hgb hh hhl (own_not_map hr0 h.mp))
  obtain ⟨o', hrun, hmp⟩ := run_put (P := Tryz.prog) h6 Tryz.underlying87 Tryz.underlying3 x v'
  have hv'h : v'.ownBlock ≠ some hh := own_not_map ha.row h6
  have hvlt : ∀ z, v'.ownBlock = some z → (rowOf rows x).ownBlock = some z ∨ wr.heap.size < z := fun z hz => by
    rcases ha.new z hz with e | e
    · exact .inl e
    · simp at e; exact .inr (by omega)
  have hold : ∀ k' v, look rows k' = some v → k' ≠ x → ∀ z, v.ownBlock = some z → z < wr.heap.size ∧ z ≠ hh ∧ (rowOf rows x).ownBlock ≠ some z := fun k' v hv hne z hz => by
    refine ⟨(World.ownsRow.lt (h.row k' v hv) z hz).2, fun e => own_not_map (h.row k' v hv) h.mp (by rw [hz, e]), fun e => ?_⟩
    unfold rowOf at e
    cases hq : look rows x with
    | none => rw [hq] at e; cases e
    | some u => rw [hq] at e; exact h.dis k' v x u hv hq hne z hz e
  have hnh : ∀ z, v'.ownBlock = some z → z ≠ hh := fun z hz e => hv'h (by rw [hz, e])
  refine ⟨_, hrun, ⟨h.it.of_blocks ((setMap_other (Ne.symm h.ne.2) _).trans (hgb g hgl (own_not_mapK hr0 h.it.mp))) ((setMap_other (Ne.symm h.ne.1) _).trans (hgb r hrl (fun e => hoff r e rfl))), ?_, h.lo, h.ne, hmp, ?_, ?_, ?_, ?_, ?_, ?_⟩⟩
  · have b1 : Below W.heap.size W (wr.alloc o) := h.bel.alloc h.bel.size o
    have b2 : Below W.heap.size W w6 := b1.grown hg b1.size (fun k hk => by
      have := (World.ownsRow.lt hr0 k hk).1
      have := h.lo.2.1
      omega)
    exact setB_below b2 h.lo.2.2 o'
  · intro k' v hv
    rw [look_put] at hv
    by_cases e : k' = x
    · rw [if_pos e] at hv
      obtain rfl := Option.some.inj hv
      subst e
      rw [chl_yes hx, List.map_append, List.length_append]
      exact row_at ha.row (fun z hz => setMap_other (hnh z hz) _)
    · rw [if_neg e] at hv
      rw [chl_no (fun e2 => e (by rw [hx] at e2; exact (Option.some.inj e2).symm))]
      refine row_at (h.row k' v hv) (fun z hz => ?_)
      obtain ⟨h1, h2, h3⟩ := hold k' v hv e z hz
      exact (setMap_other h2 _).trans (hgb z h1 h3)
  · intro k' v hv z hz
    rw [look_put] at hv
    by_cases e : k' = x
    · rw [if_pos e] at hv
      obtain rfl := Option.some.inj hv
      rcases hvlt z hz with q | q
      · exact hoff z q
      · omega
    · rw [if_neg e] at hv
      exact h.off k' v hv z hz
  · intro k1 v1 k2 v2 h1 h2 hne z hz1 hz2
    rw [look_put] at h1 h2
    by_cases e1 : k1 = x
    · rw [if_pos e1] at h1
      obtain rfl := Option.some.inj h1
      have e2 : ¬ k2 = x := fun e => hne (by rw [e1, e])
      rw [if_neg e2] at h2
      obtain ⟨q1, q2, q3⟩ := hold k2 v2 h2 e2 z hz2
      rcases hvlt z hz1 with q | q
      · exact q3 q
      · omega
    · rw [if_neg e1] at h1
      by_cases e2 : k2 = x
      · rw [if_pos e2] at h2
        obtain rfl := Option.some.inj h2
        obtain ⟨q1, q2, q3⟩ := hold k1 v1 h1 e1 z hz1
        rcases hvlt z hz2 with q | q
        · exact q3 q
        · omega
      · rw [if_neg e2] at h2
        exact h.dis k1 v1 k2 v2 h1 h2 hne z hz1 hz2
  · exact List.nodup_append.2 ⟨h.dn, by simp, fun a ha' b hb e => by simp at hb; subst hb; subst e; exact hkD ha'⟩
  · intro y hy
    rcases List.mem_append.1 hy with z | z
    · exact h.dm y z
    · simp at z; subst z; exact hm
  · intro k' hk'
    rw [look_put] at hk'
    by_cases e : k' = x
    · rw [if_pos e] at hk'; cases hk'
    · rw [if_neg e] at hk'
      rw [chl_no (fun e2 => e (by rw [hx] at e2; exact (Option.some.inj e2).symm))]
      exact h.ks k' hk'
end
end Go.Proofs.YtkkkldglceiiiaaGreat
