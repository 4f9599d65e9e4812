/- group.names. -/
import Derived.Test.YtkkbhkpeglcodaaGreatDoorGrName
import Derived.Deep.LoopGhost
namespace Go.Proofs.YtkkbhkpeglcodaaGreatDoor
open Go.ChangeShapes Go.WideShapes Go.ChangeAt Go.RowKit
set_option linter.unusedVariables false

theorem Tryz.infoSt : (Tryz.prog.info? 9).map (fun i => (i.zero, i.size, i.bytes)) = some (some (.string ByteArray.empty), 1, 16) := by kernel_rfl
def stc (ss : List ByteArray) : List Value := ss.map Value.string
theorem src_St (w : World) (s : ByteArray) (x : Nat) (hx : x = w.heap.size) :
    Src Tryz.prog 1 62 (.slice (some ⟨x, 0, none⟩) 1 1) 1 (stc [s]) (w.alloc (.cells #[.string s] 9)) :=
  Src.ofSlice _ Tryz.underlying62 _ 1 1 _ rfl (fun j u hu => by
    subst hx
    have := World.news_of_block (cs := #[.string s]) (t := 9) (fr := (0, 0)) (heap_alloc_new w _) j u (by simpa [stc] using hu)
    exact this) (by simp [stc, Value.oneCell'])
/-- A row of texts of the call's own, and nothing of before has turned. -/
structure StRow (w0 w : World) (v : Value) (xs : List ByteArray) : Prop where
  row : w.ownsRow w0.heap.size 9 1 v xs.length (stc xs)
  bel : Below w0.heap.size w0 w
theorem StRow.le {w0 w : World} {v : Value} {xs : List ByteArray} (h : StRow w0 w v xs) : w0.heap.size ≤ w.heap.size := h.bel.size
theorem StRow.carry {w0 w w' : World} {v : Value} {xs : List ByteArray} (h : StRow w0 w v xs) (hb : Below w.heap.size w w') : StRow w0 w' v xs := ⟨own_carryI h.row hb, h.bel.trans (hb.mono h.le)⟩
theorem StRow.nil (w0 w : World) (h : Below w0.heap.size w0 w) : StRow w0 w (.slice none 0 0) [] := ⟨World.ownsRow_nil _ _ _ _, h⟩
theorem StRow.stepL {w0 W1 W2 : World} {v v' : Value} {xs ys : List ByteArray} (h1 : StRow w0 W1 v xs) (ha : Appended w0.heap.size 9 W1 W2 v v' (xs.length + ys.length) (stc xs ++ stc ys)) : StRow w0 W2 v' (xs ++ ys) := by
  refine ⟨?_, grown_belowI h1.bel h1.le h1.row ha.grown⟩
  have := ha.row
  simpa [stc] using this
theorem StRow.rebase {W W' W2 : World} {v : Value} {xs : List ByteArray} (hb : Below W.heap.size W W') (h : StRow W' W2 v xs) : StRow W W2 v xs := by
  refine ⟨⟨h.row.1, ?_⟩, hb.trans (h.bel.mono hb.size)⟩
  rcases h.row.2 with h1 | ⟨g', cap, cur, hv, hbg, hg, hr⟩
  · exact .inl h1
  · exact .inr ⟨g', cap, cur, hv, Nat.le_trans hb.size hbg, hg, hr⟩
theorem StRow.shape {w0 w : World} {v : Value} {xs : List ByteArray} (h : StRow w0 w v xs) : ∃ a c, v = .slice a xs.length c := by
  rcases h.row.2 with ⟨rfl, h1⟩ | ⟨g, cap, cur, hv, _⟩
  · exact ⟨none, 0, by rw [h1]⟩
  · exact ⟨_, _, hv⟩
theorem srcS_own {w : World} {B : Nat} {v : Value} {us : List ByteArray} (h : w.ownsRow B 9 1 v us.length (stc us)) : Src Tryz.prog 1 62 v us.length (stc us) w := by
  have h1 : ∀ u ∈ stc us, u.oneCell' = true := by
    intro u hu
    obtain ⟨x, _, rfl⟩ := List.mem_map.1 hu
    rfl
  rcases h.2 with ⟨rfl, h0⟩ | ⟨g, cap, cur, hv, hb, hg, hnc, _⟩
  · have hu : us = [] := List.eq_nil_of_length_eq_zero h0
    subst hu
    exact Src.ofNil _ Tryz.underlying62 0
  · have hc := h.cells (g := g) (by rw [hv]; rfl)
    rw [hv]
    exact Src.ofSlice _ Tryz.underlying62 _ _ _ _ h.1 hc h1
/-- Texts that lie in memory. -/
structure StIn (w : World) (v : Value) (xs : List ByteArray) : Prop where
  shape : ∃ a c, v = .slice a xs.length c ∧ (0 < xs.length → ∃ g, a = some ⟨g, 0, none⟩ ∧ g < w.heap.size ∧ xs.length ≤ c ∧ ∀ j, j < xs.length → w.cell? ⟨g, j, none⟩ = some (.string (xs.getD j ByteArray.empty)))
theorem StRow.isIn {w0 w : World} {v : Value} {xs : List ByteArray} (h : StRow w0 w v xs) : StIn w v xs := by
  refine ⟨?_⟩
  rcases h.row.2 with ⟨rfl, h1⟩ | ⟨g, cap, cur, hv, hb, hg, hnc, _⟩
  · exact ⟨none, 0, by rw [h1], fun h0 => by omega⟩
  · refine ⟨_, cap, hv, fun h0 => ⟨g, rfl, lt_of_block hg, hnc, fun j hj => ?_⟩⟩
    have e := h.row.cells (g := g) (by rw [hv]; rfl) j (.string (xs.getD j ByteArray.empty)) (by simp [stc, hj])
    have ea : (⟨g, 0, none⟩ : Addr).add j = ⟨g, j, none⟩ := by unfold Addr.add; split <;> simp_all
    rw [ea] at e
    exact e
theorem StIn.below {w w' : World} {v : Value} {xs : List ByteArray} (h : StIn w v xs) (hb : Below w.heap.size w w') : StIn w' v xs := by
  obtain ⟨a, c, hv, hh⟩ := h.shape
  refine ⟨⟨a, c, hv, fun h0 => ?_⟩⟩
  obtain ⟨g, ha, hg, hc, hj⟩ := hh h0
  refine ⟨g, ha, Nat.lt_of_lt_of_le hg hb.size, hc, fun j hjl => ?_⟩
  rw [hb.cell (p := ⟨g, j, none⟩) hg]
  exact hj j hjl

section
variable {P : Program} (w : World)
theorem step_own_srcS {ops : Array Oper} {o : Oper} {a : Act} {K : Act → World → Prop} {Q : Exit → Act → World → Prop} {E : Prop} (hgd : o.guard = none) (s x : Operand) (t tx : TypeId)
    (ho : o.op = .call { callee := .builtin .append, args := #[s, x], argTypes := #[t, tx] })
    (base : Nat) (e : TypeId) (i : TypeInfo) (z : Value) (bytes : Nat) (ht : P.underlying t = some (.slice e)) (hi : P.info? e = some i) (hz : i.zero = some z)
    (hsize : i.size = 1) (hby : i.bytes = bytes) (hzs : z.cells.size = 1)
    (v : Value) (n : Nat) (xs : List Value) (hv : a.eval s = v) (hown : w.ownsRow base e 1 v n xs) (xv : Value) (m : Nat) (news : List Value) (hx : a.eval x = xv) (hs : Src P 1 tx xv m news w)
    (h63 : n + m ≤ maxLen) (hbytes : (n + m) * bytes ≤ 140737488355328) (hbase : base ≤ w.heap.size)
    (hK : ∀ v' w', Appended base e w w' v v' (n + m) (xs ++ news) → K (a.put o.dst v') w') :
    if Region.wanted o (yielded ops a.tmps) = true then Oper.wp P o a w K Q else E := by
  have hw : Region.wanted o (yielded ops a.tmps) = true := by simp [Region.wanted, hgd]
  rw [if_pos hw]
  obtain ⟨v', w', hrun, r'⟩ := own_append (P := P) w base t tx o.type e i z bytes ht hi hz hsize hby hzs v n xs hown xv m news hs h63 hbytes hbase
  unfold Oper.wp execOp
  simp only [ho, resolve, invoke, builtin, Sem.run_bind, Sem.run_pure, Result.andThen_ok, List.map_toArray, List.map_cons, List.map_nil, hv, hx, hrun]
  exact hK v' w' r'
end

set_option maxRecDepth 100000 in
set_option maxHeartbeats 1000000 in
theorem names_of (at' : ByteArray) (v : Value) (xs : List Iv) (w : World) (hE : GEnv w) (h : IvIn w v xs) (hl : xs.length ≤ 1000) (ha : at'.size ≤ 1000000) (hx : ∀ j, j < xs.length → i64 (xs.getD j iv0).lev ∧ i64 (xs.getD j iv0).idx) :
    Calls Tryz.prog 45 #[.string at', v] w fun e w' => ∃ v', e = .returned v' ∧ StRow w w' v' (xs.map (gname at')) := by
  obtain ⟨i0, hi, hz0, hz1, hz2⟩ := dinfo Tryz.infoSt
  obtain ⟨a, cp, rfl, hsh⟩ := h.shape
  have HS : Hid _ := hsh
  have HX : Hid (∀ j, j < xs.length → i64 (xs.getD j iv0).lev ∧ i64 (xs.getD j iv0).idx) := hx
  have HE : Hid (GEnv w) := hE
  have HM : Hid _ := StRow.nil w w (Below.refl _ _)
  clear h hsh hx hE
  go_enter Tryz.func45, Tryz.ntmps45
  go_wp2
  go_loopg [5, 10] xs.length (fun kx s5 s10 wr => ∃ k : Nat, s10 = .int .i64 k ∧ k ≤ xs.length ∧ kx = xs.length - k ∧ (∃ a c, s5 = .slice a k c) ∧ Hid (StRow w wr s5 ((xs.take k).map (gname at'))))
  case atStart => exact ⟨0, rfl, Nat.zero_le _, rfl, ⟨_, _, rfl⟩, HM⟩
  case round =>
    obtain ⟨k, rfl, hk, rfl, ⟨a1, c1, rfl⟩, R⟩ := hrel
    by_cases hlt : k < xs.length
    · obtain ⟨g, rfl, hg, hcap, hj⟩ := HS.out (by omega)
      obtain ⟨d0, d1⟩ := hj k hlt
      obtain ⟨x1, x2⟩ := HX.out k hlt
      have hle := R.out.le
      have e : ∀ o, wr.cell? ⟨g, o, none⟩ = w.cell? ⟨g, o, none⟩ := fun o => R.out.bel.cell (p := ⟨g, o, none⟩) hg
      rw [← e] at d0 d1
      have HL : Hid (((xs.take k).map (gname at')).length = k) := (by rw [List.length_map, List.length_take]; omega : ((xs.take k).map (gname at')).length = k)
      have HSN : Hid ((xs.take (k + 1)).map (gname at') = (xs.take k).map (gname at') ++ [gname at' (xs.getD k iv0)]) := (by rw [List.take_succ_eq_append_getElem hlt, List.map_append, List.map_singleton]; congr 3; simp [List.getD, hlt] : (xs.take (k + 1)).map (gname at') = (xs.take k).map (gname at') ++ [gname at' (xs.getD k iv0)])
      have hgl : g < wr.heap.size := Nat.lt_of_lt_of_le hg hle
      generalize xs.getD k iv0 = y at d0 d1 x1 x2 HSN
      generalize (xs.take k).map (gname at') = ss at *
      have HN : Hid _ := fun W (hE : GEnv W) => name_of at' y W hE ha x1 x2
      have HEW : Hid (GEnv (wr.alloc (.cells #[.int .i64 y.lev, .int .i64 y.idx] 23))) := (HE.out.below R.out.bel).below (dbel1 _ _)
      clear e hj x1 x2
      generalize gname at' y = nm at HN HSN
      go_wp2_with fail
      refine Calls.mono (HN.out _ HEW.out) ?_
      rintro e W1 ⟨rfl, b1⟩
      have R1 : Hid (StRow w W1 (.slice a1 k c1) ss) := (R.out.carry (dbel1 _ _)).carry b1
      have hle1 := R1.out.le
      have HR : Hid (W1.ownsRow w.heap.size 9 1 (.slice a1 k c1) k (stc ss)) := by
        have := R1.out.row; rw [HL.out] at this; exact this
      clear b1 d0 d1
      go_wp2_with (at_builtin; refine wpList_own_append _ rfl _ _ 62 62 rfl w.heap.size 9 i0 _ 16 Tryz.underlying62 hi hz0 hz1 hz2 rfl _ k (stc ss) rfl (own_carryI HR.out (dbel1 _ _)) _ 1 (stc [nm]) rfl (src_St W1 nm _ rfl) ?c3 ?c4 ?c5 ?_)
      case c3 => unfold maxLen; omega
      case c4 => omega
      case c5 => simp; omega
      intro v' W2 hap
      obtain ⟨a', cp', hv⟩ := hap.shape
      subst hv
      have HST : Hid (StRow w W2 (.slice a' (k + 1) cp') ((xs.take (k + 1)).map (gname at'))) := by
        show StRow _ _ _ _
        rw [HSN.out]
        exact (R1.out.carry (dbel1 _ _)).stepL (by rw [HL.out]; exact hap)
      clear hap
      go_wp2
      go_roundg (xs.length - (k + 1))
      case measure => omega
      case rel => exact ⟨k + 1, by go_num, by omega, rfl, ⟨_, _, rfl⟩, HST⟩
    · obtain rfl : k = xs.length := by omega
      have HE2 : Hid (xs.take xs.length = xs) := (List.take_length : xs.take xs.length = xs)
      go_wp2
      go_ret
      exact ⟨_, rfl, by rw [HE2.out] at R; exact R.out⟩
end Go.Proofs.YtkkbhkpeglcodaaGreatDoor
