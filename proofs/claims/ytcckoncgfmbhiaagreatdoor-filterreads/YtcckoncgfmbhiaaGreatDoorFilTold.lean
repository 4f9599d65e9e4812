/- wigwaglaw06.told: a filter as the document's; wigwagref06.Same of two that are alike. -/
import Derived.Test.YtcckoncgfmbhiaaGreatDoorFilAwake
import Derived.Test.YtcckoncgfmbhiaaGreatDoorOwnSrc5
namespace Go.Proofs.YtcckoncgfmbhiaaGreatDoor
open Go.ChangeShapes Go.WideShapes Go.ChangeAt Go.RowKit
set_option linter.unusedVariables false

def pl0 : Pl := ⟨[], 0, 0, 0, []⟩
/-- Predicates of a slice: they lie in block g from its beginning on (if there are any). -/
structure PlIn (w : World) (v : Value) (ps : List Pl) : Prop where
  shape : ∃ a c, v = .slice a ps.length c ∧ (0 < ps.length → ∃ g, a = some ⟨g, 0, none⟩ ∧ g < w.heap.size ∧ ps.length ≤ c ∧ ∀ i, i < ps.length → ∀ j, j < 5 → w.cell? ⟨g, i * 5 + j, none⟩ = (ps.getD i pl0).cells[j]?)
theorem PlIn.below {w w' : World} {v : Value} {ps : List Pl} (h : PlIn w v ps) (hb : Below w.heap.size w w') : PlIn w' v ps := by
  obtain ⟨a, c, hv, hh⟩ := h.shape
  refine ⟨a, c, hv, fun hp => ?_⟩
  obtain ⟨g, ha, hg, hc, hj⟩ := hh hp
  exact ⟨g, ha, Nat.lt_of_lt_of_le hg hb.size, hc, fun i hi j hj5 => (hb.cell (p := ⟨g, i * 5 + j, none⟩) hg).trans (hj i hi j hj5)⟩
theorem PlIn.ofOwn {w : World} {B : Nat} {e : TypeId} {v : Value} {us : List Pl} (h : w.ownsRow B e 5 v us.length (us.flatMap Pl.cells)) : PlIn w v us := by
  rcases h.2 with ⟨hv, h1⟩ | ⟨g, cap, cur, hv, hb, hg, hnc, _⟩
  · refine ⟨none, 0, by rw [hv, h1], fun hp => by omega⟩
  · refine ⟨_, cap, hv, fun hp => ⟨g, rfl, lt_of_block hg, hnc, fun i hi j hj => ?_⟩⟩
    have hx := flat_get Pl.cells 5 Pl.cells_len pl0 us i j hi hj
    have hj' : j < (us.getD i pl0).cells.length := hj
    have e := h.cells (g := g) (by rw [hv]; rfl) (i * 5 + j) ((us.getD i pl0).cells[j]) (by rw [hx, List.getElem?_eq_getElem hj'])
    have ea : (⟨g, 0, none⟩ : Addr).add (i * 5 + j) = ⟨g, i * 5 + j, none⟩ := by unfold Addr.add; split <;> simp_all
    rw [ea] at e
    rw [e, List.getElem?_eq_getElem hj']
theorem PlIn.row {w : World} {a : Option Addr} {n c : Nat} {ps : List Pl} (h : PlIn w (.slice a n c) ps) (k : Nat) (hk : k < ps.length) :
    ∃ g, a = some ⟨g, 0, none⟩ ∧ g < w.heap.size ∧ w.cell? ⟨g, k * 5, none⟩ = some (.string (ba (ps.getD k pl0).name)) ∧ w.cell? ⟨g, k * 5 + 1, none⟩ = some (.int .i64 (ps.getD k pl0).op) ∧ w.cell? ⟨g, k * 5 + 2, none⟩ = some (.int .i64 (ps.getD k pl0).lo) ∧ w.cell? ⟨g, k * 5 + 3, none⟩ = some (.int .i64 (ps.getD k pl0).hi) ∧ w.cell? ⟨g, k * 5 + 4, none⟩ = some (.string (ba (ps.getD k pl0).str)) := by
  obtain ⟨a', c', e, hh⟩ := h.shape
  obtain ⟨g, ha, hg, hc, hj⟩ := hh (by omega)
  simp at e
  obtain ⟨rfl, rfl, rfl⟩ := e
  have q := fun j hj5 => hj k hk j hj5
  exact ⟨g, ha, hg, q 0 (by omega), q 1 (by omega), q 2 (by omega), q 3 (by omega), q 4 (by omega)⟩
theorem Tryz.infoRP : (Tryz.prog.info? 66).map (fun i => (i.zero, i.size, i.bytes)) = some (some (.agg #[.string ByteArray.empty, .int .i64 0, .int .i64 0, .int .i64 0, .string ByteArray.empty]), 5, 56) := by kernel_rfl
theorem src_RPl (w : World) (q : Pl) (x : Nat) (hx : x = w.heap.size) :
    Src Tryz.prog 5 34 (.slice (some ⟨x, 0, none⟩) 1 1) 1 q.cells (w.alloc (.cells #[.string (ba q.name), .int .i64 q.op, .int .i64 q.lo, .int .i64 q.hi, .string (ba q.str)] 66)) :=
  Src.ofSlice _ Tryz.underlying34 _ 1 1 _ rfl (fun j u hu => by
    subst hx
    have := World.news_of_block (cs := #[.string (ba q.name), .int .i64 q.op, .int .i64 q.lo, .int .i64 q.hi, .string (ba q.str)]) (t := 66) (fr := (0, 0)) (heap_alloc_new w _) j u (by simpa [Pl.cells] using hu)
    exact this) (by simp [Pl.cells, Value.oneCell'])
theorem take_pl (ps : List Pl) (i : Nat) (hi : i < ps.length) : (ps.take (i + 1)).flatMap Pl.cells = (ps.take i).flatMap Pl.cells ++ (ps.getD i pl0).cells := by
  rw [List.take_succ_eq_append_getElem hi, List.flatMap_append]
  simp [hi]
theorem own_carryF {B : Nat} {w w' : World} {e : TypeId} {k n : Nat} {v : Value} {xs : List Value} (h : w.ownsRow B e k v n xs) (hb : Below w.heap.size w w') : w'.ownsRow B e k v n xs := by
  refine ⟨h.1, ?_⟩
  rcases h.2 with h1 | ⟨g', cap, cur, hv, hbg, hg, hr⟩
  · exact .inl h1
  · exact .inr ⟨g', cap, cur, hv, hbg, (hb.block g' (lt_of_block hg)).trans hg, hr⟩
theorem grown_belowF {B : Nat} {w0 w w' : World} {e : TypeId} {k n : Nat} {v : Value} {xs : List Value} (hb : Below B w0 w) (hle : B ≤ w.heap.size) (h : w.ownsRow B e k v n xs) (hg : w.grownBy w' v.ownBlock) : Below B w0 w' :=
  hb.trans ⟨hg.os, hg.tape, hg.output, hg.size, fun j hj => hg.block j (by omega) (fun e => by have := (h.lt j e.symm).1; omega)⟩

set_option maxRecDepth 100000 in
set_option maxHeartbeats 1000000 in
theorem told_any (v : Value) (ps : List Pl) (w : World) (h : PlIn w v ps) (hl : ps.length ≤ 1000) :
    Calls Tryz.prog 15 #[v] w fun e w' => ∃ v', e = .returned v' ∧ w'.ownsRow w.heap.size 66 5 v' ps.length (ps.flatMap Pl.cells) ∧ Below w.heap.size w w' := by
  obtain ⟨i0, hi, hz0, hz1, hz2⟩ := info_parts Tryz.infoRP
  obtain ⟨a, c, hv, _⟩ := h.shape
  subst hv
  have HI : Hid (PlIn w (.slice a ps.length c) ps) := h
  have HS : Hid ((w.alloc (.cells #[] 66)).ownsRow w.heap.size 66 5 (.slice (some ⟨w.heap.size, 0, none⟩) 0 0) 0 []) := World.ownsRow_made w #[] 0 (Nat.le_refl _) (Nat.zero_le _) rfl
  clear h
  go_enter Tryz.func15, Tryz.ntmps15
  go_wp2
  go_loopg [3, 9] ps.length (fun kx s3 s9 wr => ∃ i : Nat, s9 = .int .i64 i ∧ i ≤ ps.length ∧ kx = ps.length - i ∧ (∃ a1 c1, s3 = .slice a1 i c1) ∧ Hid (wr.ownsRow w.heap.size 66 5 s3 i ((ps.take i).flatMap Pl.cells) ∧ Below w.heap.size w wr ∧ w.heap.size ≤ wr.heap.size))
  case atStart => exact ⟨0, rfl, Nat.zero_le _, rfl, ⟨_, _, rfl⟩, (⟨by simpa using HS.out, (Below.refl _ _).alloc (Nat.le_refl _) _, by simp⟩ : _ ∧ _ ∧ _)⟩
  case round =>
    obtain ⟨i, rfl, h1, hkg, ⟨a1, c1, rfl⟩, R⟩ := hrel
    by_cases hl' : i < ps.length
    · obtain ⟨g, ha, hg, k0, k1, k2, k3, k4⟩ := (HI.out.below R.out.2.1).row i hl'
      subst ha
      have SN : Hid ((ps.take (i + 1)).flatMap Pl.cells = (ps.take i).flatMap Pl.cells ++ (ps.getD i pl0).cells) := take_pl ps i hl'
      generalize ps.getD i pl0 = x at k0 k1 k2 k3 k4 SN
      have hle := R.out.2.2
      go_wp2_with (at_builtin; refine wpList_own_append5 _ rfl _ _ 34 34 rfl w.heap.size 66 i0 _ 56 Tryz.underlying34 hi hz0 hz1 hz2 rfl _ _ _ rfl ((R.out.1.alloc _).alloc _) _ 1 x.cells rfl (src_RPl (wr.alloc _) x (wr.heap.size + 1) (by simp)) ?c3 ?c4 ?c5 ?_)
      case c3 => unfold maxLen; omega
      case c4 => omega
      case c5 => simp; omega
      intro v' w2 ha
      have HST : Hid (w2.ownsRow w.heap.size 66 5 v' (i + 1) ((ps.take (i + 1)).flatMap Pl.cells) ∧ Below w.heap.size w w2 ∧ w.heap.size ≤ w2.heap.size) := by
        have hr := ha.row
        rw [← SN.out] at hr
        have b2 : Below w.heap.size w ((wr.alloc (.cells #[.string (ba x.name), .int .i64 x.op, .int .i64 x.lo, .int .i64 x.hi, .string (ba x.str)] 74)).alloc (.cells #[.string (ba x.name), .int .i64 x.op, .int .i64 x.lo, .int .i64 x.hi, .string (ba x.str)] 66)) := (R.out.2.1.alloc hle _).alloc (by simp; omega) _
        exact ⟨hr, grown_belowF b2 b2.size ((R.out.1.alloc _).alloc _) ha.grown, Nat.le_trans b2.size ha.grown.size⟩
      obtain ⟨a', c', hv'⟩ := ha.shape
      subst hv'
      clear ha k0 k1 k2 k3 k4
      go_wp2
      go_roundg (ps.length - (i + 1))
      case measure => omega
      case rel => exact ⟨i + 1, by go_num, by omega, rfl, ⟨_, _, rfl⟩, HST⟩
    · obtain rfl : i = ps.length := by omega
      have HE : Hid (ps.take ps.length = ps) := (List.take_length : ps.take ps.length = ps)
      go_wp2
      go_ret
      exact ⟨_, rfl, by have := R.out.1; rwa [HE.out] at this, R.out.2.1⟩
section
variable {P : Program} (w : World)
/-- An append to an own row (five cells an element) behind a guard that holds. -/
theorem wpList_own_append5g {ops : Array Oper} {rest : List Oper} {o : Oper} {a : Act} {Q : Exit → Act → World → Prop} (hw : Region.wanted o (yielded ops a.tmps) = true) (s x : Operand) (t tx : TypeId)
    (ho : o.op = .call { callee := .builtin .append, args := #[s, x], argTypes := #[t, tx] })
    (base : Nat) (e : TypeId) (i : TypeInfo) (z : Value) (bytes : Nat) (ht : P.underlying t = some (.slice e)) (hi : P.info? e = some i) (hz : i.zero = some z)
    (hsize : i.size = 5) (hby : i.bytes = bytes) (hzs : z.cells.size = 5)
    (v : Value) (n : Nat) (xs : List Value) (hv : a.eval s = v) (hown : w.ownsRow base e 5 v n xs) (xv : Value) (m : Nat) (news : List Value) (hx : a.eval x = xv) (hs : Src P 5 tx xv m news w)
    (h63 : n + m ≤ maxLen) (hbytes : (n + m) * bytes ≤ 140737488355328) (hbase : base ≤ w.heap.size)
    (hK : ∀ v' w', Appended5 base e w w' v v' (n + m) (xs ++ news) → wpList P ops Q rest (a.put o.dst v') w') : wpList P ops Q (o :: rest) a w := by
  refine wpList_step fun K hK' => ?_
  rw [if_pos hw]
  obtain ⟨v', w', hrun, r'⟩ := own_append5 (P := P) w base t tx o.type e i z bytes ht hi hz hsize hby hzs v n xs hown xv m news hs h63 hbytes hbase
  unfold Oper.wp
  simp [execOp, ho, resolve, invoke, builtin, hv, hx, hrun, Result.andThen]
  exact hK' _ _ (hK v' w' r')
end

set_option maxRecDepth 100000 in
set_option maxHeartbeats 1000000 in
theorem same_yes (v u : Value) (ps : List Pl) (w : World) (h : PlIn w v ps) (h2 : PlIn w u ps) (hl : ps.length ≤ 1000) :
    Calls Tryz.prog 14 #[v, u] w fun e w' => e = .returned (.bool true) ∧ Below w.heap.size w w' := by
  obtain ⟨a, c, hv, _⟩ := h.shape
  obtain ⟨a2, c2, hu, _⟩ := h2.shape
  subst hv hu
  have HI : Hid (PlIn w (.slice a ps.length c) ps ∧ PlIn w (.slice a2 ps.length c2) ps) := ⟨h, h2⟩
  clear h h2
  go_enter Tryz.func14, Tryz.ntmps14
  go_wp2
  go_loopg [13] ps.length (fun kx s13 wr => ∃ i : Nat, s13 = .int .i64 i ∧ i ≤ ps.length ∧ kx = ps.length - i ∧ Hid (Below w.heap.size w wr))
  case atStart => exact ⟨0, rfl, Nat.zero_le _, rfl, (Below.refl _ _ : Below w.heap.size w w)⟩
  case round =>
    obtain ⟨i, rfl, h1, hkg, R⟩ := hrel
    by_cases hl' : i < ps.length
    · obtain ⟨g, ha, hg, k0, k1, k2, k3, k4⟩ := (HI.out.1.below R.out).row i hl'
      obtain ⟨g2, ha2, hg2, m0, m1, m2, m3, m4⟩ := (HI.out.2.below R.out).row i hl'
      subst ha ha2
      generalize ps.getD i pl0 = x at k0 k1 k2 k3 k4 m0 m1 m2 m3 m4
      go_wp2_with fail
      go_quiet (fail)
      go_wp2
      go_roundg (ps.length - (i + 1))
      case measure => omega
      case rel => exact ⟨i + 1, by go_num, by omega, rfl, (⟨R.out.os, R.out.tape, R.out.output, R.out.size, R.out.block⟩ : Below w.heap.size w (wr.drewN _))⟩
    · go_wp2
      go_ret
      exact ⟨rfl, R.out⟩
end Go.Proofs.YtcckoncgfmbhiaaGreatDoor
