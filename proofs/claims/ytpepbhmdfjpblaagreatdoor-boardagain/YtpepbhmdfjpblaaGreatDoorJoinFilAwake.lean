/- wigwaglaw06's awake and at; errors.Is and errors.As of a fault. -/
import Derived.Test.YtpepbhmdfjpblaaGreatDoorFilTry
import Derived.Test.YtpepbhmdfjpblaaGreatDoorAsFault
import Derived.Test.YtpepbhmdfjpblaaGreatDoorRowMath
import Derived.Test.YtpepbhmdfjpblaaGreatDoorOwnSrc5
import Derived.Test.YtpepbhmdfjpblaaGreatDoorFilPrnM
import Derived.Test.YtpepbhmdfjpblaaGreatDoorShelfB
import Derived.Test.YtpepbhmdfjpblaaGreatDoorFam
import Derived.Deep.LoopGhost
import Derived.Test.YtpepbhmdfjpblaaGreatDoorShelf
import Derived.Lib.Join
import Derived.Test.YtpepbhmdfjpblaaGreatDoorFilOne
import Derived.Deep.CutBlock
import Derived.Deep.DeepCutAuto
import Derived.Test.YtpepbhmdfjpblaaGreatDoorFilStr
import Derived.Laws.OwnMore
import Derived.Test.YtpepbhmdfjpblaaGreatDoorFilAll
import Derived.Deep.RegionWith
import Derived.Test.YtpepbhmdfjpblaaGreatDoorValAttrs
import Derived.Test.YtpepbhmdfjpblaaGreatDoorValPreds
import Derived.Test.YtpepbhmdfjpblaaGreatDoorValCheck
import Derived.Test.YtpepbhmdfjpblaaGreatDoorValFilter
set_option linter.unnecessarySimpa false
namespace Go.Proofs.YtpepbhmdfjpblaaGreatDoor
open Go.ChangeShapes Go.WideShapes Go.ChangeAt Go.RowKit Go.Extern.Stop Go.Stop Go.Extern
set_option linter.unusedVariables false

theorem no_is_fl (v : Value) (xT : TypeId) (w : World) : (Instr.typeAssert (.iface 170 v) xT 132 true).run Tryz.prog w = .ok (.tuple #[.nilIface, .bool false]) w := run_typeAssert_lacksB Tryz.underlying132 (by kernel_rfl) (by kernel_rfl) v xT w
theorem has_unwrapl (v : Value) (xT : TypeId) (w : World) : (Instr.typeAssert (.iface 170 v) xT 135 true).run Tryz.prog w = .ok (.tuple #[.iface 170 v, .bool true]) w := run_typeAssert_hasB Tryz.underlying135 (by kernel_rfl) v xT w
theorem unwrap_methodl (v : Value) (w : World) : (Go.method 393 170 v "Unwrap").run Tryz.prog w = .ok (180, v) w := by kernel_rfl
set_option maxRecDepth 100000 in
theorem is_faultl (g : Nat) (c at' : Int) (w : World) (h : FaultAt w g at' c) :
    Calls Tryz.prog 12 #[.iface 170 (.pointer (some ⟨g, 0, none⟩)), .iface 36 (.int .i64 c)] w fun e w' => e = .returned (.bool true) ∧ w' = w := by
  have hc2 : w.cell? ⟨g, 2, none⟩ = some (.iface 36 (.int .i64 c)) := by unfold FaultAt at h; simp [World.cell?, h]
  clear h
  have h28 := type_callL
  have h51 := comp_callL
  have mC := comp_methodL
  have nF := no_is_fl
  have uF := has_unwrapl
  have mU := unwrap_methodl
  have hty := run_eql_iface_types (P := Tryz.prog) 170 36 (.pointer (some ⟨g, 0, none⟩)) (.int .i64 c) Tryz.underlying30 (by decide) w
  have heq := eql_codesL c c w
  have hcc : (c == c) = true := by simp
  rw [hcc] at heq
  clear hcc
  go_enter Tryz.func12, Tryz.ntmps12
  go_wp2
  refine wp_loop_rounds 2 ?_
  rw [rounds_succ]
  go_wp2
  rw [rounds_succ]
  go_wp2
  go_ret
  exact ⟨rfl, rfl⟩
theorem FaultAt.below {w w' : World} {g : Nat} {a c : Int} (h : FaultAt w g a c) (hb : Below w.heap.size w w') : FaultAt w' g a c := (hb.block g (lt_of_block h)).trans h
/-- The predicates of a filter that was made lie where it shows. -/
theorem fil_cells {w : World} {B : Nat} {v : Value} {us : List Pl} (h : w.ownsRow B 148 5 v us.length (us.flatMap Pl.cells)) (h0 : 0 < us.length) (d : Pl) :
    ∃ g c, v = .slice (some ⟨g, 0, none⟩) us.length c ∧ us.length ≤ c ∧ B ≤ g ∧ g < w.heap.size ∧ ∀ i, i < us.length → ∀ j, j < 5 → w.cell? ⟨g, i * 5 + j, none⟩ = (us.getD i d).cells[j]? := by
  rcases h.2 with ⟨_, h1⟩ | ⟨g, cap, cur, hv, hb, hg, hnc, _⟩
  · omega
  · refine ⟨g, cap, hv, hnc, hb, lt_of_block hg, fun i hi j hj => ?_⟩
    have hx := flat_get Pl.cells 5 Pl.cells_len d us i j hi hj
    have hj' : j < (us.getD i d).cells.length := hj
    have e := h.cells (g := g) (by rw [hv]; rfl) (i * 5 + j) ((us.getD i d).cells[j]) (by rw [hx, List.getElem?_eq_getElem hj'])
    have ea : (⟨g, 0, none⟩ : Addr).add (i * 5 + j) = ⟨g, i * 5 + j, none⟩ := by unfold Addr.add; split <;> simp_all
    rw [ea] at e
    rw [e, List.getElem?_eq_getElem hj']
/-- What Parse answers, by the text's filter. -/
theorem ParsAns.ok {e : Ending} {w w' : World} {s : ByteArray} {ps : List Pl} {r : List UInt8} (h : ParsAns e w w' s) (hs : ¬ 300 < s.size) (hp : pars s.data.toList = .ok ps r) : ∃ v, e = .returned (.tuple #[v, .nilIface]) ∧ w'.ownsRow w.heap.size 148 5 v ps.length (ps.flatMap Pl.cells) := by
  unfold ParsAns at h; rw [if_neg hs, hp] at h; exact h
theorem ParsAns.fail {e : Ending} {w w' : World} {s : ByteArray} {b : Bool} {r : List UInt8} (h : ParsAns e w w' s) (hs : ¬ 300 < s.size) (hp : pars s.data.toList = .fail b r) : ∃ N, e = .returned (.tuple #[.slice none 0 0, .iface 170 (.pointer (some ⟨N, 0, none⟩))]) ∧ FaultAt w' N ((s.size - r.length : Nat) : Int) 2 := by
  unfold ParsAns at h; rw [if_neg hs, hp] at h; exact h

end Go.Proofs.YtpepbhmdfjpblaaGreatDoor

/- wigwaglaw06.told: a filter as the document's; wigwagref06.Same of two that are alike. -/
namespace Go.Proofs.YtpepbhmdfjpblaaGreatDoor
open Go.ChangeShapes Go.WideShapes Go.ChangeAt Go.RowKit
set_option linter.unusedVariables false

def pl0 : Pl := ⟨[], 0, 0, 0, []⟩
/-- Predicates of a slice: they lie in block g from its beginning on (if there are any). -/
structure PlIn (w : World) (v : Value) (ps : List Pl) : Prop where
  shape : ∃ a c, v = .slice a ps.length c ∧ (0 < ps.length → ∃ g, a = some ⟨g, 0, none⟩ ∧ g < w.heap.size ∧ ps.length ≤ c ∧ ∀ i, i < ps.length → ∀ j, j < 5 → w.cell? ⟨g, i * 5 + j, none⟩ = (ps.getD i pl0).cells[j]?)
theorem PlIn.below {w w' : World} {v : Value} {ps : List Pl} (h : PlIn w v ps) (hb : Below w.heap.size w w') : PlIn w' v ps := by
  obtain ⟨a, c, hv, hh⟩ := h.shape
  refine ⟨a, c, hv, fun hp => ?_⟩
  obtain ⟨g, ha, hg, hc, hj⟩ := hh hp
  exact ⟨g, ha, Nat.lt_of_lt_of_le hg hb.size, hc, fun i hi j hj5 => (hb.cell (p := ⟨g, i * 5 + j, none⟩) hg).trans (hj i hi j hj5)⟩
theorem PlIn.ofOwn {w : World} {B : Nat} {e : TypeId} {v : Value} {us : List Pl} (h : w.ownsRow B e 5 v us.length (us.flatMap Pl.cells)) : PlIn w v us := by
  rcases h.2 with ⟨hv, h1⟩ | ⟨g, cap, cur, hv, hb, hg, hnc, _⟩
  · refine ⟨none, 0, by rw [hv, h1], fun hp => by omega⟩
  · refine ⟨_, cap, hv, fun hp => ⟨g, rfl, lt_of_block hg, hnc, fun i hi j hj => ?_⟩⟩
    have hx := flat_get Pl.cells 5 Pl.cells_len pl0 us i j hi hj
    have hj' : j < (us.getD i pl0).cells.length := hj
    have e := h.cells (g := g) (by rw [hv]; rfl) (i * 5 + j) ((us.getD i pl0).cells[j]) (by rw [hx, List.getElem?_eq_getElem hj'])
    have ea : (⟨g, 0, none⟩ : Addr).add (i * 5 + j) = ⟨g, i * 5 + j, none⟩ := by unfold Addr.add; split <;> simp_all
    rw [ea] at e
    rw [e, List.getElem?_eq_getElem hj']
theorem PlIn.row {w : World} {a : Option Addr} {n c : Nat} {ps : List Pl} (h : PlIn w (.slice a n c) ps) (k : Nat) (hk : k < ps.length) :
    ∃ g, a = some ⟨g, 0, none⟩ ∧ g < w.heap.size ∧ w.cell? ⟨g, k * 5, none⟩ = some (.string (ba (ps.getD k pl0).name)) ∧ w.cell? ⟨g, k * 5 + 1, none⟩ = some (.int .i64 (ps.getD k pl0).op) ∧ w.cell? ⟨g, k * 5 + 2, none⟩ = some (.int .i64 (ps.getD k pl0).lo) ∧ w.cell? ⟨g, k * 5 + 3, none⟩ = some (.int .i64 (ps.getD k pl0).hi) ∧ w.cell? ⟨g, k * 5 + 4, none⟩ = some (.string (ba (ps.getD k pl0).str)) := by
  obtain ⟨a', c', e, hh⟩ := h.shape
  obtain ⟨g, ha, hg, hc, hj⟩ := hh (by omega)
  simp at e
  obtain ⟨rfl, rfl, rfl⟩ := e
  have q := fun j hj5 => hj k hk j hj5
  exact ⟨g, ha, hg, q 0 (by omega), q 1 (by omega), q 2 (by omega), q 3 (by omega), q 4 (by omega)⟩
theorem Tryz.infoRP : (Tryz.prog.info? 156).map (fun i => (i.zero, i.size, i.bytes)) = some (some (.agg #[.string ByteArray.empty, .int .i64 0, .int .i64 0, .int .i64 0, .string ByteArray.empty]), 5, 56) := by kernel_rfl
theorem src_RPl (w : World) (q : Pl) (x : Nat) (hx : x = w.heap.size) :
    Src Tryz.prog 5 110 (.slice (some ⟨x, 0, none⟩) 1 1) 1 q.cells (w.alloc (.cells #[.string (ba q.name), .int .i64 q.op, .int .i64 q.lo, .int .i64 q.hi, .string (ba q.str)] 156)) :=
  Src.ofSlice _ Tryz.underlying110 _ 1 1 _ rfl (fun j u hu => by
    subst hx
    have := World.news_of_block (cs := #[.string (ba q.name), .int .i64 q.op, .int .i64 q.lo, .int .i64 q.hi, .string (ba q.str)]) (t := 156) (fr := (0, 0)) (heap_alloc_new w _) j u (by simpa [Pl.cells] using hu)
    exact this) (by simp [Pl.cells, Value.oneCell'])
theorem take_pl (ps : List Pl) (i : Nat) (hi : i < ps.length) : (ps.take (i + 1)).flatMap Pl.cells = (ps.take i).flatMap Pl.cells ++ (ps.getD i pl0).cells := by
  rw [List.take_succ_eq_append_getElem hi, List.flatMap_append]
  simp [hi]
theorem own_carryF {B : Nat} {w w' : World} {e : TypeId} {k n : Nat} {v : Value} {xs : List Value} (h : w.ownsRow B e k v n xs) (hb : Below w.heap.size w w') : w'.ownsRow B e k v n xs := by
  refine ⟨h.1, ?_⟩
  rcases h.2 with h1 | ⟨g', cap, cur, hv, hbg, hg, hr⟩
  · exact .inl h1
  · exact .inr ⟨g', cap, cur, hv, hbg, (hb.block g' (lt_of_block hg)).trans hg, hr⟩
theorem grown_belowF {B : Nat} {w0 w w' : World} {e : TypeId} {k n : Nat} {v : Value} {xs : List Value} (hb : Below B w0 w) (hle : B ≤ w.heap.size) (h : w.ownsRow B e k v n xs) (hg : w.grownBy w' v.ownBlock) : Below B w0 w' :=
  hb.trans ⟨hg.os, hg.tape, hg.output, hg.size, fun j hj => hg.block j (by omega) (fun e => by have := (h.lt j e.symm).1; omega)⟩

section
variable {P : Program} (w : World)
/-- An append to an own row (five cells an element) behind a guard that holds. -/
theorem wpList_own_append5g {ops : Array Oper} {rest : List Oper} {o : Oper} {a : Act} {Q : Exit → Act → World → Prop} (hw : Region.wanted o (yielded ops a.tmps) = true) (s x : Operand) (t tx : TypeId)
    (ho : o.op = .call { callee := .builtin .append, args := #[s, x], argTypes := #[t, tx] })
    (base : Nat) (e : TypeId) (i : TypeInfo) (z : Value) (bytes : Nat) (ht : P.underlying t = some (.slice e)) (hi : P.info? e = some i) (hz : i.zero = some z)
    (hsize : i.size = 5) (hby : i.bytes = bytes) (hzs : z.cells.size = 5)
    (v : Value) (n : Nat) (xs : List Value) (hv : a.eval s = v) (hown : w.ownsRow base e 5 v n xs) (xv : Value) (m : Nat) (news : List Value) (hx : a.eval x = xv) (hs : Src P 5 tx xv m news w)
    (h63 : n + m ≤ maxLen) (hbytes : (n + m) * bytes ≤ 140737488355328) (hbase : base ≤ w.heap.size)
    (hK : ∀ v' w', Appended5 base e w w' v v' (n + m) (xs ++ news) → wpList P ops Q rest (a.put o.dst v') w') : wpList P ops Q (o :: rest) a w := by
  refine wpList_step fun K hK' => ?_
  rw [if_pos hw]
  obtain ⟨v', w', hrun, r'⟩ := own_append5 (P := P) w base t tx o.type e i z bytes ht hi hz hsize hby hzs v n xs hown xv m news hs h63 hbytes hbase
  unfold Oper.wp
  simp [execOp, ho, resolve, invoke, builtin, hv, hx, hrun, Result.andThen]
  exact hK' _ _ (hK v' w' r')
end

end Go.Proofs.YtpepbhmdfjpblaaGreatDoor

/- filter.quoted, printPred, Print. -/
namespace Go.Proofs.YtpepbhmdfjpblaaGreatDoor
open Go.ChangeShapes Go.WideShapes Go.ChangeAt Go.RowKit
set_option linter.unusedVariables false

theorem pbel1 (w : World) (o : Obj) : Below w.heap.size w (w.alloc o) := (Below.refl _ _).alloc (Nat.le_refl _) o
theorem own_carryP {B : Nat} {w w' : World} {e : TypeId} {k n : Nat} {v : Value} {xs : List Value} (h : w.ownsRow B e k v n xs) (hb : Below w.heap.size w w') : w'.ownsRow B e k v n xs := by
  refine ⟨h.1, ?_⟩
  rcases h.2 with h1 | ⟨g', cap, cur, hv, hbg, hg, hr⟩
  · exact .inl h1
  · exact .inr ⟨g', cap, cur, hv, hbg, (hb.block g' (lt_of_block hg)).trans hg, hr⟩
theorem grown_belowP {B : Nat} {w0 w w' : World} {e : TypeId} {k n : Nat} {v : Value} {xs : List Value} (hb : Below B w0 w) (hle : B ≤ w.heap.size) (h : w.ownsRow B e k v n xs) (hg : w.grownBy w' v.ownBlock) : Below B w0 w' :=
  hb.trans ⟨hg.os, hg.tape, hg.output, hg.size, fun j hj => hg.block j (by omega) (fun e => by have := (h.lt j e.symm).1; omega)⟩
/-- A row of one-cell things of the call's own. -/
structure OwRow (T : TypeId) (w0 w : World) (v : Value) (xs : List Value) : Prop where
  row : w.ownsRow w0.heap.size T 1 v xs.length xs
  bel : Below w0.heap.size w0 w
theorem OwRow.le {T : TypeId} {w0 w : World} {v : Value} {xs : List Value} (h : OwRow T w0 w v xs) : w0.heap.size ≤ w.heap.size := h.bel.size
theorem OwRow.carry {T : TypeId} {w0 w w' : World} {v : Value} {xs : List Value} (h : OwRow T w0 w v xs) (hb : Below w.heap.size w w') : OwRow T w0 w' v xs := ⟨own_carryP h.row hb, h.bel.trans (hb.mono h.le)⟩
theorem OwRow.nil (T : TypeId) (w0 w : World) (h : Below w0.heap.size w0 w) : OwRow T w0 w (.slice none 0 0) [] := ⟨World.ownsRow_nil _ _ _ _, h⟩
theorem OwRow.step {T : TypeId} {w0 W1 W2 : World} {v v' : Value} {xs ys : List Value} (h1 : OwRow T w0 W1 v xs) (ha : Appended w0.heap.size T W1 W2 v v' (xs.length + ys.length) (xs ++ ys)) : OwRow T w0 W2 v' (xs ++ ys) := by
  refine ⟨?_, grown_belowP h1.bel h1.le h1.row ha.grown⟩
  have := ha.row
  simpa using this
theorem src_By (w : World) (c : UInt8) (x : Nat) (hx : x = w.heap.size) :
    Src Tryz.prog 1 225 (.slice (some ⟨x, 0, none⟩) 1 1) 1 [cellB c] (w.alloc (.cells #[.int .u8 (c.toNat : Int)] 5)) :=
  Src.ofSlice _ Tryz.underlying225 _ 1 1 _ rfl (fun j u hu => by
    subst hx
    have := World.news_of_block (cs := #[.int .u8 (c.toNat : Int)]) (t := 5) (fr := (0, 0)) (heap_alloc_new w _) j u (by simpa [cellB] using hu)
    exact this) (by simp [cellB, Value.oneCell'])
theorem own_made (w : World) (T : TypeId) (cs : List Value) (n : Nat) (hn : n = cs.length) (hl : cs.length ≤ maxLen) : (w.alloc (.cells cs.toArray T)).ownsRow w.heap.size T 1 (.slice (some ⟨w.heap.size, 0, none⟩) n n) cs.length cs := by
  subst hn
  refine ⟨by simp, .inr ⟨w.heap.size, cs.length, cs.toArray, rfl, Nat.le_refl _, heap_alloc_new w _, Nat.le_refl _, hl, by simp, by simp⟩⟩
/-- Bytes of the call's own as a text. -/
theorem conv_own {W : World} {B : Nat} {v : Value} {acc : List UInt8} (hrow : W.ownsRow B 5 1 v acc.length (acc.map cellB)) : (convert 225 9 v).run Tryz.prog W = .ok (.string (ba acc)) W := by
  rcases hrow.2 with ⟨hv, hn⟩ | ⟨g, cap, cur, hv, hbg, hg, hnc, hcm, hcs, htake⟩
  · have hl : acc = [] := List.eq_nil_of_length_eq_zero hn
    subst hl
    subst hv
    exact run_convert_bytes_nil (P := Tryz.prog) W 225 5 Tryz.underlying225 Tryz.underlying5 0 0 9 Tryz.underlying9
  · rw [hv]
    exact run_convert_bytes_back (P := Tryz.prog) W 225 9 5 ⟨g, 0, none⟩ cap acc Tryz.underlying225 Tryz.underlying5 Tryz.underlying9 (fun i hi => by
      have := hrow.cells (g := g) (by rw [hv]; rfl) i (cellB acc[i]) (by simp [hi])
      exact this)

theorem qL_len (s : List UInt8) : (qL s).length ≤ 2 * s.length := by
  induction s with
  | nil => simp [qL]
  | cons c s ih => rw [qL_cons]; split <;> simp <;> omega
end Go.Proofs.YtpepbhmdfjpblaaGreatDoor

/- filter.printPred, filter.Print. -/
namespace Go.Proofs.YtpepbhmdfjpblaaGreatDoor
open Go.ChangeShapes Go.WideShapes Go.ChangeAt Go.RowKit
set_option linter.unusedVariables false

theorem itoaF (n : Int) (w : World) (E : Env w) (h1 : -9999999999 ≤ n) (h2 : n ≤ 9999999999) : Calls Tryz.prog 122 #[.int .i64 n] w fun e w' => e = .returned (.string (ba (Lib.itoa n))) ∧ Below w.heap.size w w' := by
  refine (Tryz.strconv_Itoa n (by omega) (by omega) w E.tab).mono ?_
  rintro e w' ⟨rfl, k, os, rfl⟩
  exact ⟨rfl, grow_below _ _ _⟩
theorem itoa_len11 (v : Int) (h1 : -9999999999 ≤ v) (h2 : v ≤ 9999999999) : (Lib.itoa v).length ≤ 11 := by
  by_cases hneg : v < 0
  · obtain ⟨u, rfl⟩ : ∃ u : Nat, v = -(u : Int) := ⟨v.natAbs, by omega⟩
    rw [Lib.itoa_neg u (by omega)]
    have := decD_len10 u (by omega)
    simp; omega
  · obtain ⟨u, rfl⟩ : ∃ u : Nat, v = (u : Int) := ⟨v.toNat, by omega⟩
    rw [Lib.itoa_nonneg]
    have := decD_len10 u (by omega)
    omega
theorem qq_size (st : List UInt8) (h : st.length ≤ 1000) : (ba (34 :: (qL st ++ [34]))).size ≤ 2002 := by
  rw [ba_size]; have := qL_len st; simp; omega
/-- What can be printed, and isn't too long. -/
structure PrnL (p : Pl) : Prop where
  prn : Prn p
  nl : p.name.length ≤ 1000
  sl : p.str.length ≤ 1000
theorem pP_len (p : Pl) (h : PrnL p) : (pP p).length ≤ 3100 := by
  obtain ⟨nm, op, lo, hi, st⟩ := p
  obtain ⟨⟨_, _, hc⟩, h1, h2⟩ := h
  simp only at hc h1 h2
  have hq := qL_len st
  unfold pP
  simp only
  rcases hc with ⟨rfl, a1, a2, a3, a4, _⟩ | ⟨ho, _⟩
  · rw [if_pos rfl]
    have := itoa_len11 lo a1 a2
    have := itoa_len11 hi a3 a4
    simp; omega
  · rw [if_neg (by omega)]
    split <;> simp <;> omega
theorem join_pF : ∀ ps : List Pl, Lib.join (ps.map pP) [32, 97, 110, 100, 32] = pF ps
  | [] => rfl
  | [p] => by rw [List.map_cons, List.map_nil, Lib.join_one]; rfl
  | p :: q :: ps => by
    have ih := join_pF (q :: ps)
    rw [List.map_cons, Lib.join_cons, List.map_cons]
    rw [List.map_cons, Lib.join_cons] at ih
    show pP p ++ Lib.joinTail [32, 97, 110, 100, 32] (pP q :: ps.map pP) = pP p ++ 32 :: 97 :: 110 :: 100 :: 32 :: pF (q :: ps)
    rw [← ih]
    unfold Lib.joinTail
    simp
theorem pF_le : ∀ (ps : List Pl), (∀ p ∈ ps, PrnL p) → (pF ps).length ≤ 3200 * ps.length
  | [], _ => by simp [pF]
  | [p], h => by unfold pF; have := pP_len p (h p (by simp)); simp; omega
  | p :: q :: ps, h => by
    have ih := pF_le (q :: ps) (fun x hx => h x (by simp [hx]))
    have := pP_len p (h p (by simp))
    unfold pF
    simp at ih ⊢; omega
theorem Tryz.infoStr : (Tryz.prog.info? 9).map (fun i => (i.zero, i.size, i.bytes)) = some (some (.string ByteArray.empty), 1, 16) := by kernel_rfl
def cellP (p : Pl) : Value := .string (ba (pP p))

end Go.Proofs.YtpepbhmdfjpblaaGreatDoor

/- The document's numbers, as lists of bytes: what its reader takes for one is what the program takes for one. No program in sight. -/
namespace Go.Proofs.YtpepbhmdfjpblaaGreatDoor
open Go.RowKit
set_option linter.unusedVariables false

def dva (n : Nat) (l : List UInt8) : Nat := l.foldl (fun n c => 10 * n + (c.toNat - 48)) n
def dv (l : List UInt8) : Nat := dva 0 l
theorem dva_cons (n : Nat) (c : UInt8) (l : List UInt8) : dva n (c :: l) = dva (10 * n + (c.toNat - 48)) l := by unfold dva; rw [List.foldl_cons]
theorem dv_snoc (l : List UInt8) (c : UInt8) : dv (l ++ [c]) = 10 * dv l + (c.toNat - 48) := by unfold dv dva; rw [List.foldl_append]; rfl
theorem dva_ge : ∀ (l : List UInt8) (n : Nat), n ≤ dva n l
  | [], n => Nat.le_refl _
  | c :: l, n => by rw [dva_cons]; have := dva_ge l (10 * n + (c.toNat - 48)); omega
theorem dva_lt : ∀ (l : List UInt8) (n : Nat), (∀ c ∈ l, isDigit c = true) → dva n l < (n + 1) * 10 ^ l.length
  | [], n, _ => by simp [dva]
  | c :: l, n, h => by
    have hc := h c (by simp)
    have ih := dva_lt l (10 * n + (c.toNat - 48)) (fun d hd => h d (by simp [hd]))
    rw [dva_cons, List.length_cons, Nat.pow_succ]
    have h9 : c.toNat - 48 ≤ 9 := by unfold isDigit at hc; simp at hc; omega
    have h2 : (10 * n + (c.toNat - 48) + 1) * 10 ^ l.length ≤ (10 * (n + 1)) * 10 ^ l.length := Nat.mul_le_mul_right _ (by omega)
    have e : (10 * (n + 1)) * 10 ^ l.length = (n + 1) * (10 ^ l.length * 10) := by rw [Nat.mul_comm 10, Nat.mul_assoc, Nat.mul_comm 10]
    exact Nat.lt_of_lt_of_le ih (e ▸ h2)
theorem dv_lt (l : List UInt8) (h : ∀ c ∈ l, isDigit c = true) : dv l < 10 ^ l.length := by
  have := dva_lt l 0 h
  unfold dv; simpa using this
theorem parse_dva : ∀ (l : List UInt8) (n : Nat), (∀ c ∈ l, isDigit c = true) → dva n l < 1000000000000000 → Lib.parseUint10 n l = .ok (dva n l)
  | [], n, _, _ => rfl
  | c :: l, n, h, hb => by
    have hc := h c (by simp)
    have hd : 48 ≤ c.toNat ∧ c.toNat ≤ 57 := by unfold isDigit at hc; simp at hc; omega
    rw [dva_cons] at hb ⊢
    have hg := dva_ge l (10 * n + (c.toNat - 48))
    have ih := parse_dva l (10 * n + (c.toNat - 48)) (fun d hd => h d (by simp [hd])) hb
    rw [Lib.parseUint10, if_pos hd, if_neg (by omega), if_neg (by omega), show n * 10 + (c.toNat - 48) = 10 * n + (c.toNat - 48) by omega]
    exact ih
theorem nDig_le : ∀ (k u : Nat), u < 10 ^ k → 1 ≤ k → Lib.nDigits u ≤ k := by
  intro k
  induction k with
  | zero => intro u h1 h2; omega
  | succ k ih =>
    intro u h1 _
    unfold Lib.nDigits
    split
    · omega
    · rename_i h10
      by_cases hk : k = 0
      · subst hk; simp at h1; omega
      · have := ih (u / 10) (by rw [Nat.pow_succ] at h1; omega) (by omega)
        omega
theorem dig_back {c : UInt8} (h : isDigit c = true) : UInt8.ofNat (48 + (c.toNat - 48)) = c := by
  apply UInt8.toNat_inj.1
  unfold isDigit at h; simp at h
  rw [UInt8.toNat_ofNat']; omega
/-- A numeral in form is the one of its number. -/
theorem dec_dv : ∀ (k : Nat) (l : List UInt8), l.length = k + 1 → (∀ c ∈ l, isDigit c = true) → (k = 0 ∨ ∃ c r, l = c :: r ∧ c.toNat ≠ 48) → Lib.decDigits (dv l) = l ∧ (k = 0 ∨ 0 < dv l) := by
  intro k
  induction k with
  | zero =>
    intro l hl hd _
    match l, hl with
    | [c], _ =>
      have hc := hd c (by simp)
      have e : dv [c] = c.toNat - 48 := by show 10 * 0 + (c.toNat - 48) = _; omega
      have h9 : c.toNat - 48 < 10 := by unfold isDigit at hc; simp at hc; omega
      rw [e, Lib.decDigits_one h9, dig_back hc]
      exact ⟨rfl, Or.inl rfl⟩
  | succ k ih =>
    intro l hl hd hh
    have hne : l ≠ [] := by intro e; subst e; simp at hl
    obtain ⟨m, b, rfl⟩ : ∃ m b, l = m ++ [b] := ⟨l.dropLast, l.getLast hne, (List.dropLast_concat_getLast hne).symm⟩
    have hm : m.length = k + 1 := by simp at hl; omega
    have hb := hd b (by simp)
    have hdm : ∀ c ∈ m, isDigit c = true := fun c hc => hd c (by simp [hc])
    obtain ⟨c, r, e, hc⟩ : ∃ c r, m ++ [b] = c :: r ∧ c.toNat ≠ 48 := by
      rcases hh with h | h
      · omega
      · exact h
    obtain ⟨c', r', rfl⟩ : ∃ c' r', m = c' :: r' := by
      cases m with
      | nil => simp at hm
      | cons c' r' => exact ⟨c', r', rfl⟩
    have ec : c' = c := by simp at e; exact e.1
    obtain ⟨i1, i2⟩ := ih (c' :: r') hm hdm (Or.inr ⟨c', r', rfl, by rw [ec]; exact hc⟩)
    have hpos : 0 < dv (c' :: r') := by
      rcases i2 with h0 | h0
      · subst h0
        have hr : r' = [] := by simp at hm; exact List.eq_nil_of_length_eq_zero (by simpa using hm)
        subst hr
        have e2 : dv [c'] = c'.toNat - 48 := by show 10 * 0 + (c'.toNat - 48) = _; omega
        have hd1 := hdm c' (by simp)
        unfold isDigit at hd1; simp at hd1
        rw [e2, ec]; rw [ec] at hd1
        clear hh i1 e e2
        omega
      · exact h0
    have h9 : b.toNat - 48 < 10 := by unfold isDigit at hb; simp at hb; omega
    rw [dv_snoc]
    refine ⟨?_, Or.inr (by omega)⟩
    rw [Lib.decDigits, dif_neg (by omega), show (10 * dv (c' :: r') + (b.toNat - 48)) / 10 = dv (c' :: r') by omega, show (10 * dv (c' :: r') + (b.toNat - 48)) % 10 = b.toNat - 48 by omega, i1, dig_back hb]
theorem dec_not (c : UInt8) (r : List UInt8) (hc : c.toNat = 48) (hr : 1 ≤ r.length) (hd : ∀ d ∈ c :: r, isDigit d = true) : Lib.decDigits (dv (c :: r)) ≠ c :: r := fun e => by
  have e2 : dv (c :: r) = dv r := by show dva (10 * 0 + (c.toNat - 48)) r = dva 0 r; rw [hc]
  have h1 := dv_lt r (fun d h => hd d (by simp [h]))
  have h2 := nDig_le r.length (dv r) h1 hr
  rw [← Lib.decDigits_length] at h2
  rw [e2] at e
  rw [e] at h2
  simp at h2
  omega
/-- What the document takes for no number. -/
def nBad (l : List UInt8) : Prop := nDigits l = [] ∨ 10 < (nDigits l).length ∨ (1 < (nDigits l).length ∧ ∃ c r, nDigits l = c :: r ∧ c.toNat = 48) ∨ (nSign l ≠ [] ∧ dv (nDigits l) = 0)
theorem nDigits_dig (l : List UInt8) : ∀ c ∈ nDigits l, isDigit c = true := fun c hc => by
  unfold nDigits at hc
  exact List.all_eq_true.1 (List.all_takeWhile (p := isDigit) (l := l.drop (nSign l).length)) c hc
theorem rnum_end {l0 : List UInt8} (hl : l0.dropWhile isBlank = []) : rNumber l0 = .fail true [] := by unfold rNumber; rw [hl]
theorem nSign_cases (c : UInt8) (r : List UInt8) : (nSign (c :: r) = [] ∧ c.toNat ≠ 45) ∨ (nSign (c :: r) = [c] ∧ c.toNat = 45) := by
  unfold nSign
  by_cases h : c.toNat = 45
  · exact Or.inr ⟨if_pos h, h⟩
  · exact Or.inl ⟨if_neg h, h⟩
def nVal (l : List UInt8) : Int := if nSign l = [] then (dv (nDigits l) : Int) else -(dv (nDigits l) : Int)
theorem mag_dv {ds : List UInt8} (h0 : ds ≠ []) (hd : ∀ c ∈ ds, isDigit c = true) (hl : ds.length ≤ 10) : Lib.parseMag ds = .ok (dv ds) ∧ dv ds < 10000000000 := by
  have h1 := dv_lt ds hd
  have h2 : (10 : Nat) ^ ds.length ≤ 10 ^ 10 := Nat.pow_le_pow_right (by omega) hl
  have h3 : (10 : Nat) ^ 10 = 10000000000 := by decide
  unfold Lib.parseMag
  rw [if_neg h0, parse_dva ds 0 hd (by show dv ds < _; omega)]
  exact ⟨rfl, by omega⟩
/-- How Atoi ends over a sign and digits, at most ten of them. -/
theorem atoi_dv (c : UInt8) (r : List UInt8) (h0 : nDigits (c :: r) ≠ []) (hl : (nDigits (c :: r)).length ≤ 10) : Lib.atoiAll (nSign (c :: r) ++ nDigits (c :: r)) = .ok (nVal (c :: r)) := by
  have hd := nDigits_dig (c :: r)
  obtain ⟨m1, m2⟩ := mag_dv h0 hd hl
  unfold nVal
  rcases nSign_cases c r with ⟨hs, hc⟩ | ⟨hs, hc⟩
  · rw [hs, if_pos rfl]
    generalize nDigits (c :: r) = ds at *
    cases ds with
    | nil => exact absurd rfl h0
    | cons x xs =>
      have hx := hd x (by simp)
      unfold isDigit at hx; simp at hx
      show Lib.atoiAll (x :: xs) = _
      unfold Lib.atoiAll
      simp only
      rw [if_neg (by omega), m1]
      simp only
      rw [if_neg (by omega), if_neg (by omega), if_neg (by omega)]
  · rw [hs, if_neg (by simp)]
    generalize nDigits (c :: r) = ds at *
    show Lib.atoiAll (c :: ds) = _
    unfold Lib.atoiAll
    simp only
    rw [if_pos (Or.inr hc), m1]
    simp only
    rw [if_neg (by omega), if_neg (by omega), if_pos hc]
theorem head_digit {c x : UInt8} {r xs : List UInt8} (h : nDigits (c :: r) = x :: xs) : ∀ d ∈ x :: xs, isDigit d = true := h ▸ nDigits_dig (c :: r)
/-- The numeral of what was read is what stands there, just if the document takes it for a number. -/
theorem itoa_dv (c : UInt8) (r : List UInt8) (h0 : nDigits (c :: r) ≠ []) (hl : (nDigits (c :: r)).length ≤ 10) : Lib.itoa (nVal (c :: r)) = nSign (c :: r) ++ nDigits (c :: r) ↔ ¬ nBad (c :: r) := by
  have hd := nDigits_dig (c :: r)
  unfold nVal nBad
  obtain ⟨x, xs, hx⟩ : ∃ x xs, nDigits (c :: r) = x :: xs := by
    cases h : nDigits (c :: r) with
    | nil => exact absurd h h0
    | cons x xs => exact ⟨x, xs, rfl⟩
  have hcan : Lib.decDigits (dv (x :: xs)) = x :: xs ↔ ¬ (1 < (x :: xs).length ∧ x.toNat = 48) := by
    rw [hx] at hd
    constructor
    · intro e ⟨h1, h2⟩
      exact dec_not x xs h2 (by simp at h1; exact h1) hd e
    · intro h
      refine (dec_dv xs.length (x :: xs) rfl hd ?_).1
      by_cases hz : xs.length = 0
      · exact Or.inl hz
      · exact Or.inr ⟨x, xs, rfl, fun e => h ⟨by simp; omega, e⟩⟩
  rw [hx] at hl ⊢
  have hlead : (∃ c' r', x :: xs = c' :: r' ∧ c'.toNat = 48) ↔ x.toNat = 48 := by
    constructor
    · rintro ⟨c', r', e, h⟩
      cases e; exact h
    · intro h; exact ⟨x, xs, rfl, h⟩
  rw [hlead]
  rcases nSign_cases c r with ⟨hs, hc⟩ | ⟨hs, hc⟩
  · rw [hs, if_pos rfl, Lib.itoa_nonneg, List.nil_append, hcan]
    constructor
    · intro h hh
      rcases hh with hh | hh | hh | hh
      · cases hh
      · omega
      · exact h hh
      · exact hh.1 rfl
    · intro h hh
      exact h (Or.inr (Or.inr (Or.inl hh)))
  · rw [hs, if_neg (by simp)]
    by_cases hz : dv (x :: xs) = 0
    · rw [hz]
      constructor
      · intro e
        exfalso
        have : Lib.itoa (-((0 : Nat) : Int)) = [48] := by
          show Lib.itoa 0 = _
          unfold Lib.itoa; rw [if_neg (by decide)]; show Lib.decDigits 0 = _; rw [Lib.decDigits_one (by omega)]; rfl
        rw [this] at e
        have e1 : (48 : UInt8) = c := by have := congrArg List.head? e; simpa using this
        rw [← e1] at hc; exact absurd hc (by decide)
      · intro h
        exact absurd (Or.inr (Or.inr (Or.inr ⟨by simp, rfl⟩))) h
    · rw [Lib.itoa_neg _ (by omega)]
      have e45 : c = 45 := UInt8.toNat_inj.1 (by rw [hc]; rfl)
      rw [e45]
      show (45 :: Lib.decDigits (dv (x :: xs)) = 45 :: (x :: xs)) ↔ _
      rw [List.cons.injEq, hcan]
      constructor
      · rintro ⟨_, h⟩ hh
        rcases hh with hh | hh | hh | hh
        · cases hh
        · omega
        · exact h hh
        · exact hz hh.2
      · intro h
        exact ⟨rfl, fun hh => h (Or.inr (Or.inr (Or.inl hh)))⟩
theorem rnum_ok {l0 r : List UInt8} {c : UInt8} (hl : l0.dropWhile isBlank = c :: r) (hb : ¬ nBad (c :: r)) : rNumber l0 = .ok (nVal (c :: r)) (nRest (c :: r)) := by
  have h0 : nDigits (c :: r) ≠ [] := fun e => hb (Or.inl e)
  have hlen : (nDigits (c :: r)).length ≤ 10 := Nat.le_of_not_lt fun e => hb (Or.inr (Or.inl e))
  unfold rNumber
  rw [hl]
  simp only
  rw [atoi_dv c r h0 hlen]
  simp only
  rw [if_pos ⟨hlen, (itoa_dv c r h0 hlen).2 hb⟩]
theorem rnum_no {l0 r : List UInt8} {c : UInt8} (hl : l0.dropWhile isBlank = c :: r) (hb : nBad (c :: r)) : rNumber l0 = .fail false (c :: r) := by
  unfold rNumber
  rw [hl]
  simp only
  by_cases h0 : nDigits (c :: r) = []
  · have e : Lib.atoiAll (nSign (c :: r) ++ nDigits (c :: r)) = .syntax := by
      rw [h0, List.append_nil]
      rcases nSign_cases c r with ⟨hs, hc⟩ | ⟨hs, hc⟩
      · rw [hs]; rfl
      · rw [hs]
        unfold Lib.atoiAll
        simp only
        rw [if_pos (Or.inr hc)]
        rfl
    rw [e]
  · by_cases hlen : (nDigits (c :: r)).length ≤ 10
    · rw [atoi_dv c r h0 hlen]
      simp only
      rw [if_neg (fun hh => (itoa_dv c r h0 hlen).1 hh.2 hb)]
    · split
      · rw [if_neg (fun hh => hlen hh.1)]
      · rfl
end Go.Proofs.YtpepbhmdfjpblaaGreatDoor

/- The document's reader (wigwagref06): places in a text; bad, blanks, letter, digit. -/
namespace Go.Proofs.YtpepbhmdfjpblaaGreatDoor
open Go.ChangeShapes Go.WideShapes Go.ChangeAt Go.RowKit
set_option linter.unusedVariables false

/-- A place in a text, as a value. -/
def spot (s : ByteArray) (k : Nat) (b : Bool) : Value := .agg #[.string s, .int .i64 (k : Int), .bool b]
/-- Where a rest of a text begins. -/
def pos (s : ByteArray) (l : List UInt8) : Nat := s.size - l.length
theorem pos_le (s : ByteArray) (l : List UInt8) : pos s l ≤ s.size := Nat.sub_le _ _
theorem pos_dr {s : ByteArray} {k : Nat} (hk : k ≤ s.size) : pos s (dr s k) = k := by unfold pos; rw [dr_len]; omega
theorem dr_posd {s : ByteArray} {k : Nat} {l : List UInt8} (h : l <:+ dr s k) : dr s (pos s l) = l := dr_suf h
theorem box_setG {w : World} {b i : Nat} {xs ys : Array Value} {t : TypeId} {v : Value} (h : w.heap[b]? = some (.cells xs t (0, 0))) (hx : xs.setIfInBounds i v = ys) : (w.setCell ⟨b, i, none⟩ v).heap[b]? = some (.cells ys t (0, 0)) := by
  have hlt := lt_of_block h
  have h' : w.heap[b] = .cells xs t (0, 0) := by simpa [Array.getElem?_eq_getElem hlt] using h
  subst hx
  show (w.heap.modify b _)[b]? = _
  rw [Array.getElem?_eq_getElem (by simpa using hlt), Array.getElem_modify_self, h']
  rfl
/-- The two blocks that a call of the reader's has made: the place, the answer. -/
structure Sp (w W : World) (s : ByteArray) (k : Nat) (b : Bool) : Prop where
  box : W.heap[w.heap.size]? = some (.cells #[.string s, .int .i64 (k : Int), .bool b] 176 (0, 0))
  out : W.heap[w.heap.size + 1]? = some (.cells #[.string ⟨#[]⟩, .int .i64 0, .bool false] 176 (0, 0))
  bel : Below w.heap.size w W
theorem alloc2_block (w : World) (o1 o2 : Obj) : ((w.alloc o1).alloc o2).heap[w.heap.size]? = (w.alloc o1).heap[w.heap.size]? := Below.heap_alloc _ _ _ (by simp)
theorem alloc2_new (w : World) (o1 o2 : Obj) : ((w.alloc o1).alloc o2).heap[w.heap.size + 1]? = ((w.alloc o1).alloc o2).heap[(w.alloc o1).heap.size]? := by simp
theorem Sp.init (w : World) (s : ByteArray) (k : Nat) (b : Bool) : Sp w ((w.alloc (.cells #[.string s, .int .i64 (k : Int), .bool b] 176)).alloc (.cells #[.string ⟨#[]⟩, .int .i64 0, .bool false] 176)) s k b :=
  ⟨(alloc2_block w _ _).trans (heap_alloc_new w _), (alloc2_new w _ _).trans (heap_alloc_new _ _), ((Below.refl _ _).alloc (Nat.le_refl _) _).alloc (by simp) _⟩
theorem Sp.below {w W W' : World} {s : ByteArray} {k : Nat} {b : Bool} (h : Sp w W s k b) (hb : Below W.heap.size W W') : Sp w W' s k b :=
  ⟨(hb.block _ (lt_of_block h.box)).trans h.box, (hb.block _ (lt_of_block h.out)).trans h.out, h.bel.trans (hb.mono h.bel.size)⟩
theorem Sp.set1 {w W : World} {s : ByteArray} {k : Nat} {b : Bool} (h : Sp w W s k b) (j : Nat) : Sp w (W.setCell ⟨w.heap.size, 1, none⟩ (.int .i64 (j : Int))) s j b :=
  ⟨box_setG h.box rfl, (Below.heap_setCell _ _ _ _ (by simp)).trans h.out, h.bel.setCell (by simp) _⟩
theorem Sp.set3 {w W : World} {s : ByteArray} {k : Nat} {b : Bool} (h : Sp w W s k b) (j : Nat) (c : Bool) : Sp w (((W.setCell ⟨w.heap.size, 0, none⟩ (.string s)).setCell ⟨w.heap.size, 1, none⟩ (.int .i64 (j : Int))).setCell ⟨w.heap.size, 2, none⟩ (.bool c)) s j c :=
  ⟨box_setG (box_setG (box_setG h.box rfl) rfl) rfl, (Below.heap_setCell _ _ _ _ (by simp)).trans ((Below.heap_setCell _ _ _ _ (by simp)).trans ((Below.heap_setCell _ _ _ _ (by simp)).trans h.out)), ((h.bel.setCell (by simp) _).setCell (by simp) _).setCell (by simp) _⟩
/-- The cells of the two blocks. -/
theorem Sp.cells {w W : World} {s : ByteArray} {k : Nat} {b : Bool} (h : Sp w W s k b) :
    W.cell? ⟨w.heap.size, 0, none⟩ = some (.string s) ∧ W.cell? ⟨w.heap.size, 1, none⟩ = some (.int .i64 (k : Int)) ∧ W.cell? ⟨w.heap.size, 2, none⟩ = some (.bool b) ∧ (∀ o, W.frozen? ⟨w.heap.size, o, none⟩ = false) ∧ w.heap.size < W.heap.size ∧
    W.cell? ⟨w.heap.size + 1, 0, none⟩ = some (.string ⟨#[]⟩) ∧ W.cell? ⟨w.heap.size + 1, 1, none⟩ = some (.int .i64 0) ∧ W.cell? ⟨w.heap.size + 1, 2, none⟩ = some (.bool false) ∧ (∀ o, W.frozen? ⟨w.heap.size + 1, o, none⟩ = false) ∧ w.heap.size + 1 < W.heap.size := by
  have h1 := h.box
  have h2 := h.out
  refine ⟨?_, ?_, ?_, ?_, lt_of_block h1, ?_, ?_, ?_, ?_, lt_of_block h2⟩
  · simp [World.cell?, h1]
  · simp [World.cell?, h1]
  · simp [World.cell?, h1]
  · intro o; simp [World.frozen?, h1]
  · simp [World.cell?, h2]
  · simp [World.cell?, h2]
  · simp [World.cell?, h2]
  · intro o; simp [World.frozen?, h2]
theorem Sp.done {w W : World} {s : ByteArray} {k : Nat} {b : Bool} (h : Sp w W s k b) (v0 v1 v2 : Value) : Below w.heap.size w (((W.setCell ⟨w.heap.size + 1, 0, none⟩ v0).setCell ⟨w.heap.size + 1, 1, none⟩ v1).setCell ⟨w.heap.size + 1, 2, none⟩ v2) :=
  ((h.bel.setCell (by simp) _).setCell (by simp) _).setCell (by simp) _

set_option maxHeartbeats 1000000 in
theorem rbad_f (s : ByteArray) (k j : Nat) (w : World) : Calls Tryz.prog 97 #[.agg #[.string s, .int .i64 (k : Int), .bool false], .int .i64 (j : Int)] w fun e w' => e = .returned (.agg #[.string s, .int .i64 (j : Int), .bool true]) ∧ Below w.heap.size w w' := by
  go_enter Tryz.func97, Tryz.ntmps97
  go_wp2
  exact bodyPost_ret (v := .agg #[.string s, .int .i64 (j : Int), .bool true]) (by simp [results, Tryz.results97, go_sem]) rfl ⟨rfl, ((Below.refl _ _).alloc (Nat.le_refl _) _).alloc (by simp) _⟩
set_option maxHeartbeats 1000000 in
theorem rbad_t (s : ByteArray) (k j : Nat) (w : World) : Calls Tryz.prog 97 #[.agg #[.string s, .int .i64 (k : Int), .bool true], .int .i64 (j : Int)] w fun e w' => e = .returned (.agg #[.string s, .int .i64 (k : Int), .bool true]) ∧ Below w.heap.size w w' := by
  go_enter Tryz.func97, Tryz.ntmps97
  go_wp2
  exact bodyPost_ret (v := .agg #[.string s, .int .i64 (k : Int), .bool true]) (by simp [results, Tryz.results97, go_sem]) rfl ⟨rfl, ((Below.refl _ _).alloc (Nat.le_refl _) _).alloc (by simp) _⟩
theorem rletter_any (c : UInt8) (w : World) : Calls Tryz.prog 99 #[.int .u8 (c.toNat : Int)] w fun e w' => e = .returned (.bool (isLetter c)) ∧ w' = w := by
  by_cases h1 : (97 : Int) ≤ (c.toNat : Int)
  · by_cases h2 : (c.toNat : Int) ≤ 122
    · have H : Hid (isLetter c = true) := by show isLetter c = true; unfold isLetter; simp; omega
      go_enter Tryz.func99, Tryz.ntmps99
      go_wp2
      go_ret
      exact ⟨by rw [H.out]; rfl, rfl⟩
    · have H : Hid (isLetter c = false) := by show isLetter c = false; unfold isLetter; simp; omega
      go_enter Tryz.func99, Tryz.ntmps99
      go_wp2
      go_ret
      exact ⟨by rw [H.out]; rfl, rfl⟩
  · have H : Hid (isLetter c = false) := by show isLetter c = false; unfold isLetter; simp; omega
    go_enter Tryz.func99, Tryz.ntmps99
    go_wp2
    go_ret
    exact ⟨by rw [H.out]; rfl, rfl⟩
theorem rdigit_any (c : UInt8) (w : World) : Calls Tryz.prog 100 #[.int .u8 (c.toNat : Int)] w fun e w' => e = .returned (.bool (isDigit c)) ∧ w' = w := by
  by_cases h1 : (48 : Int) ≤ (c.toNat : Int)
  · by_cases h2 : (c.toNat : Int) ≤ 57
    · have H : Hid (isDigit c = true) := by show isDigit c = true; unfold isDigit; simp; omega
      go_enter Tryz.func100, Tryz.ntmps100
      go_wp2
      go_ret
      exact ⟨by rw [H.out]; rfl, rfl⟩
    · have H : Hid (isDigit c = false) := by show isDigit c = false; unfold isDigit; simp; omega
      go_enter Tryz.func100, Tryz.ntmps100
      go_wp2
      go_ret
      exact ⟨by rw [H.out]; rfl, rfl⟩
  · have H : Hid (isDigit c = false) := by show isDigit c = false; unfold isDigit; simp; omega
    go_enter Tryz.func100, Tryz.ntmps100
    go_wp2
    go_ret
    exact ⟨by rw [H.out]; rfl, rfl⟩
theorem rletter_is {b : Bool} (c : UInt8) (w : World) (h : isLetter c = b) : Calls Tryz.prog 99 #[.int .u8 (c.toNat : Int)] w fun e w' => e = .returned (.bool b) ∧ w' = w := by subst h; exact rletter_any c w
theorem rdigit_is {b : Bool} (c : UInt8) (w : World) (h : isDigit c = b) : Calls Tryz.prog 100 #[.int .u8 (c.toNat : Int)] w fun e w' => e = .returned (.bool b) ∧ w' = w := by subst h; exact rdigit_any c w

/-- Behind the blanks. -/
def nb (s : ByteArray) (k : Nat) : Nat := pos s ((dr s k).dropWhile isBlank)
theorem nb_dr (s : ByteArray) (k : Nat) : dr s (nb s k) = (dr s k).dropWhile isBlank := dr_posd (List.dropWhile_suffix _)
theorem nb_le (s : ByteArray) (k : Nat) : nb s k ≤ s.size := pos_le _ _
set_option maxRecDepth 100000 in
set_option maxHeartbeats 1000000 in
theorem rblanks_f (s : ByteArray) (k : Nat) (w : World) (hk : k ≤ s.size) (hs : s.size ≤ 1000) : Calls Tryz.prog 73 #[.agg #[.string s, .int .i64 (k : Int), .bool false]] w fun e w' => e = .returned (.agg #[.string s, .int .i64 (nb s k : Int), .bool false]) ∧ Below w.heap.size w w' := by
  have HS : Hid (Sp w _ s k false) := Sp.init w s k false
  go_enter Tryz.func73, Tryz.ntmps73
  go_wp2_with fail
  go_loopg [] (s.size - k) (fun kx wr => ∃ j : Nat, j ≤ s.size ∧ kx = s.size - j ∧ Hid (Sp w wr s j false ∧ (dr s k).dropWhile isBlank = (dr s j).dropWhile isBlank))
  case atStart => exact ⟨k, hk, rfl, (⟨HS.out, rfl⟩ : _ ∧ _)⟩
  case round =>
    obtain ⟨j, hj, hkx, I⟩ := hrel
    obtain ⟨c0, c1, c2, cf, cl, d0, d1, d2, df, dl⟩ := I.out.1.cells
    by_cases hgo : ∃ h : j < s.size, (s[j].toNat : Int) = 32
    · obtain ⟨hlt, hc⟩ := hgo
      have I2 : Hid (Sp w (wr.setCell ⟨w.heap.size, 1, none⟩ (.int .i64 ((j + 1 : Nat) : Int))) s (j + 1) false ∧ (dr s k).dropWhile isBlank = (dr s (j + 1)).dropWhile isBlank) := ⟨I.out.1.set1 (j + 1), I.out.2.trans (blank_go s j hlt hc)⟩
      go_wp2
      go_roundg (s.size - (j + 1))
      case measure => omega
      case rel => exact ⟨j + 1, by omega, rfl, (by simpa using I2.out : _ ∧ _)⟩
    · have HN : Hid (nb s k = j) := by
        show nb s k = j
        unfold nb
        rw [I.out.2]
        by_cases hlt : j < s.size
        · rw [blank_stop s j hlt (fun h => hgo ⟨hlt, h⟩), pos_dr hj]
        · rw [dr_end s j (by omega)]
          show s.size - 0 = j
          omega
      have HB : Hid _ := I.out.1.done (.string s) (.int .i64 (j : Int)) (.bool false)
      rcases (show (¬ j < s.size) ∨ (∃ h : j < s.size, ¬ (s[j].toNat : Int) = 32) by
        by_cases hlt : j < s.size
        · exact Or.inr ⟨hlt, fun h => hgo ⟨hlt, h⟩⟩
        · exact Or.inl hlt) with hlt | ⟨hlt, hc⟩
      all_goals
        clear hgo I
        go_wp2
        refine bodyPost_ret (v := .agg #[.string s, .int .i64 (j : Int), .bool false]) (by simp [results, Tryz.results73, go_sem, *]) rfl ⟨by rw [HN.out], HB.out⟩
set_option maxRecDepth 100000 in
set_option maxHeartbeats 1000000 in
theorem rblanks_t (s : ByteArray) (k : Nat) (w : World) : Calls Tryz.prog 73 #[.agg #[.string s, .int .i64 (k : Int), .bool true]] w fun e w' => e = .returned (.agg #[.string s, .int .i64 (k : Int), .bool true]) ∧ Below w.heap.size w w' := by
  have HS : Hid (Sp w _ s k true) := Sp.init w s k true
  go_enter Tryz.func73, Tryz.ntmps73
  go_wp2_with fail
  go_loopg [] 0 (fun kx wr => kx = 0 ∧ Hid (Sp w wr s k true))
  case atStart => exact ⟨rfl, HS⟩
  case round =>
    obtain ⟨hkx, I⟩ := hrel
    obtain ⟨c0, c1, c2, cf, cl, d0, d1, d2, df, dl⟩ := I.out.cells
    have HB : Hid _ := I.out.done (.string s) (.int .i64 (k : Int)) (.bool true)
    go_wp2
    exact bodyPost_ret (v := .agg #[.string s, .int .i64 (k : Int), .bool true]) (by simp [results, Tryz.results73, go_sem, *]) rfl ⟨rfl, HB.out⟩
end Go.Proofs.YtpepbhmdfjpblaaGreatDoor

/- The document's reader (wigwagref06): word, mark. -/
namespace Go.Proofs.YtpepbhmdfjpblaaGreatDoor
open Go.ChangeShapes Go.WideShapes Go.ChangeAt Go.RowKit
set_option linter.unusedVariables false

def Ps.isBad {α : Type} : Ps α → Bool
  | .ok _ _ => false
  | .fail _ _ => true
def wdV : Ps (List UInt8) → ByteArray
  | .ok v _ => ba v
  | .fail _ _ => ⟨#[]⟩
/-- What a reader's call answers: the place, and a value. -/
def RdV {α : Type} (e : Ending) (s : ByteArray) (r : Ps α) (v : Value) : Prop := e = .returned (.tuple #[.agg #[.string s, .int .i64 (pos s r.left : Int), .bool r.isBad], v])
def RdS {α : Type} (e : Ending) (s : ByteArray) (r : Ps α) : Prop := e = .returned (.agg #[.string s, .int .i64 (pos s r.left : Int), .bool r.isBad])
theorem pos_nil (s : ByteArray) : pos s [] = s.size := rfl

set_option maxRecDepth 100000 in
set_option maxHeartbeats 2000000 in
theorem rword_t (s : ByteArray) (k : Nat) (w : World) : Calls Tryz.prog 74 #[.agg #[.string s, .int .i64 (k : Int), .bool true]] w fun e w' => e = .returned (.tuple #[.agg #[.string s, .int .i64 (k : Int), .bool true], .string ⟨#[]⟩]) ∧ Below w.heap.size w w' := by
  have HS : Hid (Sp w _ s k true) := Sp.init w s k true
  go_enter Tryz.func74, Tryz.ntmps74
  go_wp2_with fail
  refine Calls.mono (rblanks_t s k _) ?_
  rintro e W1 ⟨rfl, b1⟩
  have S1 : Hid (Sp w W1 s k true) := HS.out.below b1
  have S2 : Hid (Sp w _ s k true) := S1.out.set3 k true
  obtain ⟨c0, c1, c2, cf, cl, d0, d1, d2, df, dl⟩ := S1.out.cells
  clear b1 HS
  go_wp2_with fail
  refine Calls.mono (rbad_t s k k _) ?_
  rintro e W3 ⟨rfl, b3⟩
  have S3 : Hid (Sp w W3 s k true) := S2.out.below b3
  clear c0 c1 c2 cf cl d0 d1 d2 df dl b3 S1 S2
  obtain ⟨c0, c1, c2, cf, cl, d0, d1, d2, df, dl⟩ := S3.out.cells
  have HB : Hid _ := S3.out.done (.string s) (.int .i64 (k : Int)) (.bool true)
  go_wp2
  exact bodyPost_ret (v := .tuple #[.agg #[.string s, .int .i64 (k : Int), .bool true], .string ⟨#[]⟩]) (by simp [results, Tryz.results74, go_sem, *]) rfl ⟨rfl, HB.out⟩

set_option maxRecDepth 100000 in
set_option maxHeartbeats 4000000 in
theorem rword_f (s : ByteArray) (k : Nat) (w : World) (hk : k ≤ s.size) (hs : s.size ≤ 1000) : Calls Tryz.prog 74 #[.agg #[.string s, .int .i64 (k : Int), .bool false]] w fun e w' => RdV e s (rWord (dr s k)) (.string (wdV (rWord (dr s k)))) ∧ Below w.heap.size w w' := by
  have HS : Hid (Sp w _ s k false) := Sp.init w s k false
  have HBL : Hid _ := fun W => rblanks_f s k W hk hs
  have hnd := nb_dr s k
  have hnl := nb_le s k
  generalize nb s k = n at *
  have HN : Hid (dr s n = (dr s k).dropWhile isBlank) := hnd
  clear hnd
  go_enter Tryz.func74, Tryz.ntmps74
  go_wp2_with fail
  refine Calls.mono (HBL.out _) ?_
  rintro e W1 ⟨rfl, b1⟩
  have S1 : Hid (Sp w W1 s k false) := HS.out.below b1
  have S2 : Hid (Sp w _ s n false) := S1.out.set3 n false
  obtain ⟨c0, c1, c2, cf, cl, d0, d1, d2, df, dl⟩ := S1.out.cells
  clear b1 HS HBL
  by_cases hlt : n < s.size
  · have hdec : decide (s.size ≤ n) = false := by simpa using hlt
    cases hL : isLetter s[n] with
    | false =>
      have HL : Hid (isLetter s[n] = false) := hL
      have HR : Hid (rWord (dr s k) = .fail false (dr s n)) := by
        show rWord (dr s k) = _
        unfold rWord
        rw [← HN.out, dr_cons s n hlt]
        simp only
        rw [HL.out]; rfl
      clear hL
      go_wp2_with fail
      refine Calls.mono (rletter_is _ _ HL.out) ?_
      rintro e V ⟨rfl, hV⟩
      have SV : Hid (Sp w V s n false) := by rw [Hid, hV]; exact S2.out
      clear hV c0 c1 c2 cf cl d0 d1 d2 df dl S1 S2
      obtain ⟨c0, c1, c2, cf, cl, d0, d1, d2, df, dl⟩ := SV.out.cells
      go_wp2_with fail
      refine Calls.mono (rbad_f s n n _) ?_
      rintro e W3 ⟨rfl, b3⟩
      have S3 : Hid (Sp w W3 s n false) := SV.out.below b3
      clear c0 c1 c2 cf cl d0 d1 d2 df dl b3 SV
      obtain ⟨c0, c1, c2, cf, cl, d0, d1, d2, df, dl⟩ := S3.out.cells
      have HB : Hid _ := S3.out.done (.string s) (.int .i64 (n : Int)) (.bool true)
      go_wp2
      refine bodyPost_ret (v := .tuple #[.agg #[.string s, .int .i64 (n : Int), .bool true], .string ⟨#[]⟩]) (by simp [results, Tryz.results74, go_sem, *]) rfl ⟨?_, HB.out⟩
      rw [HR.out]
      show Ending.returned _ = Ending.returned (.tuple #[.agg #[.string s, .int .i64 (pos s (dr s n) : Int), .bool true], .string ⟨#[]⟩])
      rw [pos_dr hnl]
    | true =>
      have HL : Hid (isLetter s[n] = true) := hL
      have HR : Hid (rWord (dr s k) = .ok ((dr s n).takeWhile alnum) ((dr s n).dropWhile alnum)) := by
        show rWord (dr s k) = _
        unfold rWord
        rw [← HN.out, dr_cons s n hlt]
        simp only
        rw [HL.out]; rfl
      clear hL
      go_wp2_with fail
      refine Calls.mono (rletter_is _ _ HL.out) ?_
      rintro e V ⟨rfl, hV⟩
      have SV : Hid (Sp w V s n false) := by rw [Hid, hV]; exact S2.out
      clear hV c0 c1 c2 cf cl d0 d1 d2 df dl S1 S2
      obtain ⟨c0, c1, c2, cf, cl, d0, d1, d2, df, dl⟩ := SV.out.cells
      have hal : alnum s[n] = true := by unfold alnum; rw [HL.out]; rfl
      have HI0 : Hid (((dr s n).takeWhile alnum = (dr s n).take (n + 1 - n) ++ (dr s (n + 1)).takeWhile alnum) ∧ (dr s n).dropWhile alnum = (dr s (n + 1)).dropWhile alnum) := by
        have := word_go s n n (Nat.le_refl _) hlt hal (by simp) rfl
        exact this
      clear hal
      go_wp2_with fail
      go_loopg [4] (s.size - (n + 1)) (fun kx t wr => ∃ j : Nat, t = .int .i64 (j : Int) ∧ n < j ∧ j ≤ s.size ∧ kx = s.size - j ∧ V = wr ∧ Hid (((dr s n).takeWhile alnum = (dr s n).take (j - n) ++ (dr s j).takeWhile alnum) ∧ (dr s n).dropWhile alnum = (dr s j).dropWhile alnum))
      case atStart => exact ⟨n + 1, by go_num, by omega, by omega, rfl, rfl, HI0⟩
      case round =>
        obtain ⟨j, rfl, hnj, hj, rfl, rfl, I⟩ := hrel
        by_cases hgo : ∃ h : j < s.size, alnum s[j] = true
        · obtain ⟨hjl, hal⟩ := hgo
          have I2 : Hid (((dr s n).takeWhile alnum = (dr s n).take (j + 1 - n) ++ (dr s (j + 1)).takeWhile alnum) ∧ (dr s n).dropWhile alnum = (dr s (j + 1)).dropWhile alnum) := word_go s n j (by omega) hjl hal I.out.1 I.out.2
          cases hL2 : isLetter s[j] with
          | true =>
            have HL2 : Hid (isLetter s[j] = true) := hL2
            clear hL2 hal
            go_wp2_with fail
            refine Calls.mono (rletter_is _ _ HL2.out) ?_
            rintro e V' ⟨rfl, hV'⟩
            subst V'
            go_wp2
            go_roundg (s.size - (j + 1))
            case measure => omega
            case rel => exact ⟨j + 1, by go_num, by omega, by omega, rfl, rfl, I2⟩
          | false =>
            have HL2 : Hid (isLetter s[j] = false) := hL2
            have HD2 : Hid (isDigit s[j] = true) := by
              rw [Hid]; unfold alnum at hal; rw [hL2] at hal; simpa using hal
            clear hL2 hal
            go_wp2_with fail
            refine Calls.mono (rletter_is _ _ HL2.out) ?_
            rintro e V' ⟨rfl, hV'⟩
            subst V'
            go_wp2_with fail
            refine Calls.mono (rdigit_is _ _ HD2.out) ?_
            rintro e V' ⟨rfl, hV'⟩
            subst V'
            go_wp2
            go_roundg (s.size - (j + 1))
            case measure => omega
            case rel => exact ⟨j + 1, by go_num, by omega, by omega, rfl, rfl, I2⟩
        · have htw : (dr s j).takeWhile alnum = [] ∧ (dr s j).dropWhile alnum = dr s j := by
            by_cases hjl : j < s.size
            · have hf : alnum s[j] = false := by
                cases h : alnum s[j] with
                | false => rfl
                | true => exact absurd ⟨hjl, h⟩ hgo
              rw [dr_cons s j hjl, List.takeWhile_cons_of_neg (by rw [hf]; simp), List.dropWhile_cons_of_neg (by rw [hf]; simp)]
              exact ⟨rfl, rfl⟩
            · rw [dr_end s j (by omega)]; exact ⟨rfl, rfl⟩
          have HE : Hid ((dr s n).takeWhile alnum = (dr s n).take (j - n) ∧ (dr s n).dropWhile alnum = dr s j) := by
            refine ⟨?_, ?_⟩
            · rw [I.out.1, htw.1, List.append_nil]
            · rw [I.out.2, htw.2]
          have HX : Hid (s.extract n j = ba ((dr s n).take (j - n))) := ext_ba s n j (by omega) hj
          have hfail : (¬ j < s.size) ∨ (∃ h : j < s.size, Hid (isLetter s[j] = false ∧ isDigit s[j] = false)) := by
            by_cases hjl : j < s.size
            · refine Or.inr ⟨hjl, ?_⟩
              have hf : alnum s[j] = false := by
                cases h : alnum s[j] with
                | false => rfl
                | true => exact absurd ⟨hjl, h⟩ hgo
              unfold alnum at hf
              rw [Hid]
              simpa using hf
            · exact Or.inl hjl
          have HB : Hid _ := (SV.out.set1 j).done (.string s) (.int .i64 (j : Int)) (.bool false)
          clear hgo htw I
          have hnj' : n ≤ j := by omega
          rcases hfail with hjl | ⟨hjl, HF⟩
          · go_wp2
            refine bodyPost_ret (v := .tuple #[.agg #[.string s, .int .i64 (j : Int), .bool false], .string (s.extract n j)]) (by simp [results, Tryz.results74, go_sem, *]) rfl ⟨?_, HB.out⟩
            rw [HR.out]
            show Ending.returned _ = Ending.returned (.tuple #[.agg #[.string s, .int .i64 (pos s ((dr s n).dropWhile alnum) : Int), .bool false], .string (ba ((dr s n).takeWhile alnum))])
            rw [HE.out.1, HE.out.2, pos_dr hj, HX.out]
          · go_wp2_with fail
            refine Calls.mono (rletter_is _ _ HF.out.1) ?_
            rintro e V' ⟨rfl, hV'⟩
            subst V'
            go_wp2_with fail
            refine Calls.mono (rdigit_is _ _ HF.out.2) ?_
            rintro e V' ⟨rfl, hV'⟩
            subst V'
            go_wp2
            refine bodyPost_ret (v := .tuple #[.agg #[.string s, .int .i64 (j : Int), .bool false], .string (s.extract n j)]) (by simp [results, Tryz.results74, go_sem, *]) rfl ⟨?_, HB.out⟩
            rw [HR.out]
            show Ending.returned _ = Ending.returned (.tuple #[.agg #[.string s, .int .i64 (pos s ((dr s n).dropWhile alnum) : Int), .bool false], .string (ba ((dr s n).takeWhile alnum))])
            rw [HE.out.1, HE.out.2, pos_dr hj, HX.out]
  · obtain rfl : n = s.size := by omega
    have HR : Hid (rWord (dr s k) = .fail true []) := by
      show rWord (dr s k) = _
      unfold rWord
      rw [← HN.out, dr_end s s.size (Nat.le_refl _)]
    go_wp2_with fail
    refine Calls.mono (rbad_f s s.size s.size _) ?_
    rintro e W3 ⟨rfl, b3⟩
    have S3 : Hid (Sp w W3 s s.size false) := S2.out.below b3
    clear c0 c1 c2 cf cl d0 d1 d2 df dl b3 S1 S2
    obtain ⟨c0, c1, c2, cf, cl, d0, d1, d2, df, dl⟩ := S3.out.cells
    have HB : Hid _ := S3.out.done (.string s) (.int .i64 (s.size : Int)) (.bool true)
    go_wp2
    refine bodyPost_ret (v := .tuple #[.agg #[.string s, .int .i64 (s.size : Int), .bool true], .string ⟨#[]⟩]) (by simp [results, Tryz.results74, go_sem, *]) rfl ⟨?_, HB.out⟩
    rw [HR.out]
    rfl
end Go.Proofs.YtpepbhmdfjpblaaGreatDoor

/- The document's reader (wigwagref06): mark, number. -/
namespace Go.Proofs.YtpepbhmdfjpblaaGreatDoor
open Go.ChangeShapes Go.WideShapes Go.ChangeAt Go.RowKit
set_option linter.unusedVariables false

set_option maxRecDepth 100000 in
set_option maxHeartbeats 2000000 in
theorem rmark_t (s m : ByteArray) (k : Nat) (w : World) : Calls Tryz.prog 96 #[.agg #[.string s, .int .i64 (k : Int), .bool true], .string m] w fun e w' => e = .returned (.agg #[.string s, .int .i64 (k : Int), .bool true]) ∧ Below w.heap.size w w' := by
  have HS : Hid (Sp w _ s k true) := Sp.init w s k true
  go_enter Tryz.func96, Tryz.ntmps96
  go_wp2_with fail
  refine Calls.mono (rblanks_t s k _) ?_
  rintro e W1 ⟨rfl, b1⟩
  have S1 : Hid (Sp w W1 s k true) := HS.out.below b1
  have S2 : Hid (Sp w _ s k true) := S1.out.set3 k true
  obtain ⟨c0, c1, c2, cf, cl, d0, d1, d2, df, dl⟩ := S1.out.cells
  clear b1 HS
  go_wp2_with fail
  refine Calls.mono (rbad_t s k k _) ?_
  rintro e W3 ⟨rfl, b3⟩
  have S3 : Hid (Sp w W3 s k true) := S2.out.below b3
  clear c0 c1 c2 cf cl d0 d1 d2 df dl b3 S1 S2
  obtain ⟨c0, c1, c2, cf, cl, d0, d1, d2, df, dl⟩ := S3.out.cells
  have HB : Hid _ := S3.out.done (.string s) (.int .i64 (k : Int)) (.bool true)
  go_wp2
  exact bodyPost_ret (v := .agg #[.string s, .int .i64 (k : Int), .bool true]) (by simp [results, Tryz.results96, go_sem, *]) rfl ⟨rfl, HB.out⟩
theorem toL_injF {s t : ByteArray} : s.toList = t.toList → s = t := fun h => by
  rw [ByteArray.toList_eq, ByteArray.toList_eq] at h
  exact ByteArray.ext (Array.toList_inj.1 h)
theorem pre_take {m l : List UInt8} : m <+: l ↔ l.take m.length = m := by
  constructor
  · rintro ⟨t, rfl⟩; simp
  · intro h; exact ⟨l.drop m.length, by have := List.take_append_drop m.length l; rw [h] at this; exact this⟩
theorem mark_eq (s m : ByteArray) (n : Nat) (hn : n + m.size ≤ s.size) : s.extract n (n + m.size) = m ↔ m.data.toList <+: dr s n := by
  rw [ext_ba s n (n + m.size) (by omega) hn, pre_take]
  have e1 : n + m.size - n = m.data.toList.length := by simp
  rw [e1]
  constructor
  · intro h
    have := congrArg (fun x : ByteArray => x.data.toList) h
    simpa [ba_list] using this
  · intro h
    rw [h]; cases m; simp [ba]
set_option maxRecDepth 100000 in
set_option maxHeartbeats 4000000 in
theorem rmark_f (s m : ByteArray) (k : Nat) (w : World) (hk : k ≤ s.size) (hs : s.size ≤ 1000) (hm1 : 1 ≤ m.size) (hm2 : m.size ≤ 10) : Calls Tryz.prog 96 #[.agg #[.string s, .int .i64 (k : Int), .bool false], .string m] w fun e w' => RdS e s (rMark m.data.toList (dr s k)) ∧ Below w.heap.size w w' := by
  have HS : Hid (Sp w _ s k false) := Sp.init w s k false
  have HBL : Hid _ := fun W => rblanks_f s k W hk hs
  have hnd := nb_dr s k
  have hnl := nb_le s k
  generalize nb s k = n at *
  have HN : Hid (dr s n = (dr s k).dropWhile isBlank) := hnd
  clear hnd
  have HLN : Hid (m.data.toList.length = m.size) := by rw [Hid]; simp
  go_enter Tryz.func96, Tryz.ntmps96
  go_wp2_with fail
  refine Calls.mono (HBL.out _) ?_
  rintro e W1 ⟨rfl, b1⟩
  have S1 : Hid (Sp w W1 s k false) := HS.out.below b1
  obtain ⟨c0, c1, c2, cf, cl, d0, d1, d2, df, dl⟩ := S1.out.cells
  clear b1 HS HBL
  go_upto_region 2 with fail
  obtain ⟨V, hV⟩ : ∃ V, V = ((W1.setCell ⟨w.heap.size, 0, none⟩ (.string s)).setCell ⟨w.heap.size, 1, none⟩ (.int .i64 (n : Int))).setCell ⟨w.heap.size, 2, none⟩ (.bool false) := ⟨_, rfl⟩
  rw [← hV]
  have S2 : Hid (Sp w V s n false) := by rw [Hid, hV]; exact S1.out.set3 n false
  clear c0 c1 c2 cf cl d0 d1 d2 df dl hV S1
  obtain ⟨c0, c1, c2, cf, cl, d0, d1, d2, df, dl⟩ := S2.out.cells
  have HFail : ¬ m.data.toList <+: dr s n → Hid (RdS (.returned (.agg #[.string s, .int .i64 (n : Int), .bool true])) s (rMark m.data.toList (dr s k))) := fun hno => by
    show RdS _ _ _
    unfold RdS rMark
    rw [← HN.out]
    by_cases hlt : n < s.size
    · rw [dr_cons s n hlt] at hno ⊢
      simp only
      rw [if_neg hno]
      show Ending.returned _ = Ending.returned (.agg #[.string s, .int .i64 (pos s (s[n] :: dr s (n + 1)) : Int), .bool true])
      rw [← dr_cons s n hlt, pos_dr hnl]
    · obtain rfl : n = s.size := by omega
      rw [dr_end s s.size (Nat.le_refl _)]
      rfl
  have HFL : Hid _ := HFail
  clear HFail
  obtain ⟨q, hq⟩ : ∃ q, q = n + m.size := ⟨_, rfl⟩
  have HQ : Hid (q = n + m.size) := hq
  have hqi : (n : Int) + (m.size : Int) = (q : Int) := by omega
  have hnq : n ≤ q := by omega
  by_cases hroom : n + m.size ≤ s.size
  · have hqs : q ≤ s.size := by omega
    have hr1 : ¬ ((s.size : Int) - (n : Int) < (m.size : Int)) := by omega
    have hd1 : decide ((s.size : Int) - (n : Int) < (m.size : Int)) = false := by simpa using hr1
    clear hq
    by_cases he : s.extract n q = m
    · have HP : Hid (m.data.toList <+: dr s n) := (mark_eq s m n hroom).1 (by rw [← HQ.out]; exact he)
      have HR : Hid (RdS (.returned (.agg #[.string s, .int .i64 (q : Int), .bool false])) s (rMark m.data.toList (dr s k))) := by
        show RdS _ _ _
        unfold RdS rMark
        rw [← HN.out]
        have hp := HP.out
        have hlt : n < s.size := by omega
        rw [dr_cons s n hlt] at hp ⊢
        simp only
        rw [if_pos hp, ← dr_cons s n hlt]
        show Ending.returned _ = Ending.returned (.agg #[.string s, .int .i64 (pos s ((dr s n).drop m.data.toList.length) : Int), .bool false])
        have ep : pos s ((dr s n).drop m.data.toList.length) = q := by
          unfold pos
          rw [List.length_drop, dr_len, HLN.out, HQ.out]
          omega
        rw [ep]
      have HB : Hid _ := (S2.out.set1 q).done (.string s) (.int .i64 (q : Int)) (.bool false)
      clear S2 HFL hroom
      go_wp2
      refine bodyPost_ret (v := .agg #[.string s, .int .i64 (q : Int), .bool false]) (by simp [results, Tryz.results96, go_sem, *]) rfl ⟨HR.out, HB.out⟩
    · have HR : Hid _ := HFL.out (fun h => he (by rw [HQ.out]; exact (mark_eq s m n hroom).2 h))
      have hx1 : (s.extract n q).toList ≠ m.toList := fun h => he (toL_injF h)
      have hx2 : ((s.extract n q).toList == m.toList) = false := by simpa using hx1
      clear he HFL hroom
      go_wp2_with fail
      refine Calls.mono (rbad_f s n n _) ?_
      rintro e W3 ⟨rfl, b3⟩
      have S3 : Hid (Sp w W3 s n false) := S2.out.below b3
      clear c0 c1 c2 cf cl d0 d1 d2 df dl b3 S2
      obtain ⟨c0, c1, c2, cf, cl, d0, d1, d2, df, dl⟩ := S3.out.cells
      have HB : Hid _ := S3.out.done (.string s) (.int .i64 (n : Int)) (.bool true)
      go_wp2
      refine bodyPost_ret (v := .agg #[.string s, .int .i64 (n : Int), .bool true]) (by simp [results, Tryz.results96, go_sem, *]) rfl ⟨HR.out, HB.out⟩
  · have HR : Hid _ := HFL.out (fun h => hroom (by
      have := h.length_le
      rw [dr_len, HLN.out] at this
      omega))
    have hr1 : (s.size : Int) - (n : Int) < (m.size : Int) := by omega
    have hd1 : decide ((s.size : Int) - (n : Int) < (m.size : Int)) = true := by simpa using hr1
    clear HFL
    go_wp2_with fail
    refine Calls.mono (rbad_f s n n _) ?_
    rintro e W3 ⟨rfl, b3⟩
    have S3 : Hid (Sp w W3 s n false) := S2.out.below b3
    clear c0 c1 c2 cf cl d0 d1 d2 df dl b3 S2
    obtain ⟨c0, c1, c2, cf, cl, d0, d1, d2, df, dl⟩ := S3.out.cells
    have HB : Hid _ := S3.out.done (.string s) (.int .i64 (n : Int)) (.bool true)
    go_wp2
    refine bodyPost_ret (v := .agg #[.string s, .int .i64 (n : Int), .bool true]) (by simp [results, Tryz.results96, go_sem, *]) rfl ⟨HR.out, HB.out⟩
end Go.Proofs.YtpepbhmdfjpblaaGreatDoor

/- The document's reader (wigwagref06): number. -/
namespace Go.Proofs.YtpepbhmdfjpblaaGreatDoor
open Go.ChangeShapes Go.WideShapes Go.ChangeAt Go.RowKit
set_option linter.unusedVariables false

def nmV : Ps Int → Int
  | .ok v _ => v
  | .fail _ _ => 0
theorem dr_drop (s : ByteArray) (i j : Nat) : (dr s i).drop j = dr s (i + j) := by unfold dr; rw [List.drop_drop]
theorem dr_split (s : ByteArray) (i j : Nat) : (dr s i).take j ++ dr s (i + j) = dr s i := by rw [← dr_drop]; exact List.take_append_drop j (dr s i)
theorem sgn_yes (s : ByteArray) (n : Nat) (h : n < s.size) (hc : s[n].toNat = 45) : nSign (dr s n) = [s[n]] ∧ nDigits (dr s n) = (dr s (n + 1)).takeWhile isDigit ∧ nRest (dr s n) = (dr s (n + 1)).dropWhile isDigit := by
  have e : nSign (dr s n) = [s[n]] := by rw [dr_cons s n h]; unfold nSign; exact if_pos hc
  refine ⟨e, ?_, ?_⟩
  · unfold nDigits; rw [e, dr_drop]; rfl
  · unfold nRest; rw [e, dr_drop]; rfl
theorem sgn_no (s : ByteArray) (n : Nat) (h : n < s.size) (hc : ¬ s[n].toNat = 45) : nSign (dr s n) = [] ∧ nDigits (dr s n) = (dr s n).takeWhile isDigit ∧ nRest (dr s n) = (dr s n).dropWhile isDigit := by
  have e : nSign (dr s n) = [] := by rw [dr_cons s n h]; unfold nSign; exact if_neg hc
  refine ⟨e, ?_, ?_⟩
  · unfold nDigits; rw [e]; rfl
  · unfold nRest; rw [e]; rfl
theorem dig_stop (s : ByteArray) (i j : Nat) (h : ∀ c ∈ (dr s i).take j, isDigit c = true) (hr : NoDig (dr s (i + j))) : (dr s i).takeWhile isDigit = (dr s i).take j ∧ (dr s i).dropWhile isDigit = dr s (i + j) := by
  have := tw_dig (l := (dr s i).take j) (r := dr s (i + j)) h hr
  rw [dr_split] at this
  exact this
theorem dig_many (s : ByteArray) (i j : Nat) (h : ∀ c ∈ (dr s i).take j, isDigit c = true) (hj : i + j ≤ s.size) : j ≤ ((dr s i).takeWhile isDigit).length := by
  have e := List.takeWhile_append_of_pos (p := isDigit) (l₁ := (dr s i).take j) (l₂ := dr s (i + j)) h
  rw [dr_split] at e
  rw [e, List.length_append, List.length_take, dr_len]
  omega
theorem take_dig (s : ByteArray) (i j : Nat) (h : i + j < s.size) : (dr s i).take (j + 1) = (dr s i).take j ++ [s[i + j]] := by
  have hl : j < (dr s i).length := by rw [dr_len]; omega
  have e1 : (dr s i)[j]? = some s[i + j] := by
    show (s.data.toList.drop i)[j]? = _
    rw [List.getElem?_drop, List.getElem?_eq_getElem (by simpa using h)]
    rfl
  have e2 : (dr s i)[j] = s[i + j] := by
    rw [List.getElem?_eq_getElem hl] at e1; exact Option.some.inj e1
  rw [List.take_succ_eq_append_getElem hl, e2]
theorem dv_bd (l : List UInt8) (h : ∀ c ∈ l, isDigit c = true) (hl : l.length ≤ 11) : dv l < 100000000000 := by
  have h1 := dv_lt l h
  have h2 : (10 : Nat) ^ l.length ≤ 10 ^ 11 := Nat.pow_le_pow_right (by omega) hl
  have h3 : (10 : Nat) ^ 11 = 100000000000 := by decide
  omega
theorem nodig_dr (s : ByteArray) (k : Nat) (h : ∀ hk : k < s.size, isDigit s[k] = false) : NoDig (dr s k) := by
  by_cases hk : k < s.size
  · rw [dr_cons s k hk]; exact h hk
  · rw [dr_end s k (by omega)]; trivial
/-- What the reader answers, by what stands there. -/
theorem nm_bad (s : ByteArray) (k n : Nat) (hn : dr s n = (dr s k).dropWhile isBlank) (hl : n ≤ s.size) (h : n < s.size → nBad (dr s n)) : RdV (.returned (.tuple #[.agg #[.string s, .int .i64 (n : Int), .bool true], .int .i64 0])) s (rNumber (dr s k)) (.int .i64 (nmV (rNumber (dr s k)))) := by
  unfold RdV
  by_cases hlt : n < s.size
  · have e := dr_cons s n hlt
    rw [e] at hn h
    rw [rnum_no hn.symm (h hlt)]
    show _ = Ending.returned (.tuple #[.agg #[.string s, .int .i64 (pos s (s[n] :: dr s (n + 1)) : Int), .bool true], .int .i64 0])
    rw [← e, pos_dr hl]
  · obtain rfl : n = s.size := by omega
    rw [dr_end s s.size (Nat.le_refl _)] at hn
    rw [rnum_end hn.symm]
    rfl
theorem nm_good (s : ByteArray) (k n kk : Nat) (v : Int) (hn : dr s n = (dr s k).dropWhile isBlank) (hlt : n < s.size) (hb : ¬ nBad (dr s n)) (hr : nRest (dr s n) = dr s kk) (hkk : kk ≤ s.size) (hv : nVal (dr s n) = v) : RdV (.returned (.tuple #[.agg #[.string s, .int .i64 (kk : Int), .bool false], .int .i64 v])) s (rNumber (dr s k)) (.int .i64 (nmV (rNumber (dr s k)))) := by
  unfold RdV
  have e := dr_cons s n hlt
  rw [e] at hn hb hr hv
  rw [rnum_ok hn.symm hb]
  show _ = Ending.returned (.tuple #[.agg #[.string s, .int .i64 (pos s (nRest (s[n] :: dr s (n + 1))) : Int), .bool false], .int .i64 (nVal (s[n] :: dr s (n + 1)))])
  rw [hr, hv, pos_dr hkk]

set_option maxRecDepth 100000 in
set_option maxHeartbeats 2000000 in
theorem rnumber_t (s : ByteArray) (k : Nat) (w : World) : Calls Tryz.prog 98 #[.agg #[.string s, .int .i64 (k : Int), .bool true]] w fun e w' => e = .returned (.tuple #[.agg #[.string s, .int .i64 (k : Int), .bool true], .int .i64 0]) ∧ Below w.heap.size w w' := by
  have HS : Hid (Sp w _ s k true) := Sp.init w s k true
  go_enter Tryz.func98, Tryz.ntmps98
  go_wp2_with fail
  refine Calls.mono (rblanks_t s k _) ?_
  rintro e W1 ⟨rfl, b1⟩
  have S1 : Hid (Sp w W1 s k true) := HS.out.below b1
  obtain ⟨c0, c1, c2, cf, cl, d0, d1, d2, df, dl⟩ := S1.out.cells
  have HB : Hid _ := (S1.out.set3 k true).done (.string s) (.int .i64 (k : Int)) (.bool true)
  clear b1 HS
  go_wp2
  exact bodyPost_ret (v := .tuple #[.agg #[.string s, .int .i64 (k : Int), .bool true], .int .i64 0]) (by simp [results, Tryz.results98, go_sem, *]) rfl ⟨rfl, HB.out⟩

set_option maxRecDepth 100000 in
set_option maxHeartbeats 8000000 in
theorem rnumber_e (s : ByteArray) (k : Nat) (w : World) (hk : k ≤ s.size) (hs : s.size ≤ 1000) (n : Nat) (hnb : nb s k = n) (hlt : ¬ n < s.size) : Calls Tryz.prog 98 #[.agg #[.string s, .int .i64 (k : Int), .bool false]] w fun e w' => RdV e s (rNumber (dr s k)) (.int .i64 (nmV (rNumber (dr s k)))) ∧ Below w.heap.size w w' := by
  have HS : Hid (Sp w _ s k false) := Sp.init w s k false
  have HBL : Hid _ := fun W => rblanks_f s k W hk hs
  have hnd := nb_dr s k
  have hnl := nb_le s k
  rw [hnb] at hnd hnl HBL
  have HN : Hid (dr s n = (dr s k).dropWhile isBlank) := hnd
  clear hnd hnb
  go_enter Tryz.func98, Tryz.ntmps98
  go_wp2_with fail
  refine Calls.mono (HBL.out _) ?_
  rintro e W1 ⟨rfl, b1⟩
  have S1 : Hid (Sp w W1 s k false) := HS.out.below b1
  obtain ⟨c0, c1, c2, cf, cl, d0, d1, d2, df, dl⟩ := S1.out.cells
  clear b1 HS HBL
  go_upto_region 2 with fail
  obtain ⟨V, hV⟩ : ∃ V, V = ((W1.setCell ⟨w.heap.size, 0, none⟩ (.string s)).setCell ⟨w.heap.size, 1, none⟩ (.int .i64 (n : Int))).setCell ⟨w.heap.size, 2, none⟩ (.bool false) := ⟨_, rfl⟩
  rw [← hV]
  have S2 : Hid (Sp w V s n false) := by rw [Hid, hV]; exact S1.out.set3 n false
  clear c0 c1 c2 cf cl d0 d1 d2 df dl hV S1
  obtain ⟨c0, c1, c2, cf, cl, d0, d1, d2, df, dl⟩ := S2.out.cells
  have HBAD : Hid _ := nm_bad s k n HN.out hnl (fun h => absurd h hlt)
  have hz : ((n : Int) == (n : Int)) = true := by simp
  go_wp2_with fail
  go_loopg [6, 7] 0 (fun kx a b wr => a = .int .i64 0 ∧ b = .int .i64 (n : Int) ∧ kx = 0 ∧ V = wr)
  case atStart => exact ⟨rfl, rfl, rfl, rfl⟩
  case round =>
    obtain ⟨rfl, rfl, hkx, rfl⟩ := hrel
    go_wp2_with fail
    refine Calls.mono (rbad_f s n n _) ?_
    rintro e W3 ⟨rfl, b3⟩
    have S3 : Hid (Sp w W3 s n false) := S2.out.below b3
    clear c0 c1 c2 cf cl d0 d1 d2 df dl b3 S2
    obtain ⟨c0, c1, c2, cf, cl, d0, d1, d2, df, dl⟩ := S3.out.cells
    have HB : Hid _ := S3.out.done (.string s) (.int .i64 (n : Int)) (.bool true)
    go_wp2
    exact bodyPost_ret (v := .tuple #[.agg #[.string s, .int .i64 (n : Int), .bool true], .int .i64 0]) (by simp [results, Tryz.results98, go_sem, *]) rfl ⟨HBAD.out, HB.out⟩

set_option maxRecDepth 100000 in
set_option maxHeartbeats 8000000 in
theorem rnumber_m (s : ByteArray) (k : Nat) (w : World) (hk : k ≤ s.size) (hs : s.size ≤ 1000) (n : Nat) (hnb : nb s k = n) (hlt : n < s.size) (hc : (s[n].toNat : Int) = 45) : Calls Tryz.prog 98 #[.agg #[.string s, .int .i64 (k : Int), .bool false]] w fun e w' => RdV e s (rNumber (dr s k)) (.int .i64 (nmV (rNumber (dr s k)))) ∧ Below w.heap.size w w' := by
  have HS : Hid (Sp w _ s k false) := Sp.init w s k false
  have HBL : Hid _ := fun W => rblanks_f s k W hk hs
  have hnd := nb_dr s k
  have hnl := nb_le s k
  rw [hnb] at hnd hnl HBL
  have HN : Hid (dr s n = (dr s k).dropWhile isBlank) := hnd
  clear hnd hnb
  go_enter Tryz.func98, Tryz.ntmps98
  go_wp2_with fail
  refine Calls.mono (HBL.out _) ?_
  rintro e W1 ⟨rfl, b1⟩
  have S1 : Hid (Sp w W1 s k false) := HS.out.below b1
  obtain ⟨c0, c1, c2, cf, cl, d0, d1, d2, df, dl⟩ := S1.out.cells
  clear b1 HS HBL
  go_upto_region 2 with fail
  obtain ⟨V, hV⟩ : ∃ V, V = ((W1.setCell ⟨w.heap.size, 0, none⟩ (.string s)).setCell ⟨w.heap.size, 1, none⟩ (.int .i64 (n : Int))).setCell ⟨w.heap.size, 2, none⟩ (.bool false) := ⟨_, rfl⟩
  rw [← hV]
  have S2 : Hid (Sp w V s n false) := by rw [Hid, hV]; exact S1.out.set3 n false
  clear c0 c1 c2 cf cl d0 d1 d2 df dl hV S1
  obtain ⟨c0, c1, c2, cf, cl, d0, d1, d2, df, dl⟩ := S2.out.cells
  obtain ⟨i, hi⟩ : ∃ i : Nat, i = n + 1 := ⟨_, rfl⟩
  have hii : (n : Int) + 1 = (i : Int) := by omega
  have HSG : Hid (nSign (dr s n) = [s[n]] ∧ nDigits (dr s n) = (dr s i).takeWhile isDigit ∧ nRest (dr s n) = (dr s i).dropWhile isDigit) := by rw [Hid, hi]; exact sgn_yes s n hlt (by omega)
  have hil : i ≤ s.size := by omega
  have hb1 : ((s[n].toNat : Int) == 45) = true := by simpa using hc
  clear hi
  have HB0 : Hid (nBad (dr s n) → RdV (.returned (.tuple #[.agg #[.string s, .int .i64 (n : Int), .bool true], .int .i64 0])) s (rNumber (dr s k)) (.int .i64 (nmV (rNumber (dr s k))))) := fun h => nm_bad s k n HN.out hnl (fun _ => h)
  have HG0 : Hid (∀ (kk : Nat) (v : Int), ¬ nBad (dr s n) → nRest (dr s n) = dr s kk → kk ≤ s.size → nVal (dr s n) = v → RdV (.returned (.tuple #[.agg #[.string s, .int .i64 (kk : Int), .bool false], .int .i64 v])) s (rNumber (dr s k)) (.int .i64 (nmV (rNumber (dr s k))))) := fun kk v h1 h2 h3 h4 => nm_good s k n kk v HN.out hlt h1 h2 h3 h4
  go_wp2_with fail
  go_loopg [6, 7] 11 (fun kx a b wr => ∃ j kk A : Nat, a = .int .i64 (A : Int) ∧ b = .int .i64 (kk : Int) ∧ j ≤ 11 ∧ kk ≤ s.size ∧ kx = 11 - j ∧ V = wr ∧ A < 100000000000 ∧ Hid (kk = i + j ∧ A = dv ((dr s i).take j) ∧ ∀ c ∈ (dr s i).take j, isDigit c = true))
  case atStart => exact ⟨0, i, 0, rfl, rfl, by omega, hil, rfl, rfl, by omega, (⟨by omega, by simp [dv, dva], by simp⟩ : _ ∧ _ ∧ _)⟩
  case round =>
    obtain ⟨j, kk, A, rfl, rfl, hj, hkk, rfl, rfl, hA, J⟩ := hrel
    have hsub : (kk : Int) - (i : Int) = (j : Int) := by have := J.out.1; omega
    by_cases hgo : ∃ h : kk < s.size, isDigit s[kk] = true ∧ j < 11
    · obtain ⟨hkl, hdg, hj11⟩ := hgo
      have HD : Hid (isDigit s[kk] = true) := hdg
      have hcc : (48 : Int) ≤ (s[kk].toNat : Int) ∧ (s[kk].toNat : Int) ≤ 57 := by unfold isDigit at hdg; simp at hdg; omega
      obtain ⟨hc1, hc2⟩ := hcc
      have J2 : Hid (kk + 1 = i + (j + 1) ∧ 10 * A + (s[kk].toNat - 48) = dv ((dr s i).take (j + 1)) ∧ (∀ c ∈ (dr s i).take (j + 1), isDigit c = true) ∧ 10 * A + (s[kk].toNat - 48) < 100000000000) := by
        obtain ⟨q1, q2, q3⟩ := J.out
        subst q1
        have e := take_dig s i j hkl
        have hall : ∀ c ∈ (dr s i).take (j + 1), isDigit c = true := by
          rw [e]; intro c hc
          rcases List.mem_append.1 hc with h | h
          · exact q3 c h
          · rw [List.mem_singleton.1 h]; exact HD.out
        have ed : 10 * A + (s[i + j].toNat - 48) = dv ((dr s i).take (j + 1)) := by rw [e, dv_snoc, ← q2]
        refine ⟨by omega, ed, hall, ?_⟩
        rw [ed]
        exact dv_bd _ hall (by rw [List.length_take]; omega)
      clear hdg
      go_wp2_with fail
      refine Calls.mono (rdigit_is _ _ HD.out) ?_
      rintro e V' ⟨rfl, hV'⟩
      subst V'

      go_wp2
      go_roundg (11 - (j + 1))
      case measure => omega
      case rel => exact ⟨j + 1, kk + 1, 10 * A + (s[kk].toNat - 48), int_eq (by omega), by go_num, by omega, by omega, rfl, rfl, J2.out.2.2.2, (⟨J2.out.1, J2.out.2.1, J2.out.2.2.1⟩ : _ ∧ _ ∧ _)⟩
    · by_cases h11 : j = 11
      · have hbad : nBad (dr s n) := by
          obtain ⟨q1, q2, q3⟩ := J.out
          have := dig_many s i j q3 (by omega)
          refine Or.inr (Or.inl ?_)
          rw [HSG.out.2.1]; omega
        have HBAD : Hid _ := HB0.out hbad
        have e1 : ((kk : Int) == (i : Int)) = false := by simp; omega
        have e1' : ¬ (kk : Int) = (i : Int) := by omega
        have hj10 : (10 : Int) < (j : Int) := by omega
        have hj11' : ¬ (j : Int) < 11 := by omega
        clear hbad HB0 HG0 J
        by_cases hkl : kk < s.size
        · cases hdg : isDigit s[kk] with
          | true =>
            have HD : Hid (isDigit s[kk] = true) := hdg
            clear hdg hgo
            go_wp2_with fail
            refine Calls.mono (rdigit_is _ _ HD.out) ?_
            rintro e V' ⟨rfl, hV'⟩
            subst V'
            go_wp2_with fail
            refine Calls.mono (rbad_f s n n _) ?_
            rintro e W3 ⟨rfl, b3⟩
            have S3 : Hid (Sp w W3 s n false) := S2.out.below b3
            clear c0 c1 c2 cf cl d0 d1 d2 df dl b3 S2
            obtain ⟨c0, c1, c2, cf, cl, d0, d1, d2, df, dl⟩ := S3.out.cells
            have HB : Hid _ := S3.out.done (.string s) (.int .i64 (n : Int)) (.bool true)
            go_wp2
            exact bodyPost_ret (v := .tuple #[.agg #[.string s, .int .i64 (n : Int), .bool true], .int .i64 0]) (by simp [results, Tryz.results98, go_sem, *]) rfl ⟨HBAD.out, HB.out⟩
          | false =>
            have HD : Hid (isDigit s[kk] = false) := hdg
            clear hdg hgo
            go_wp2_with fail
            refine Calls.mono (rdigit_is _ _ HD.out) ?_
            rintro e V' ⟨rfl, hV'⟩
            subst V'
            go_wp2_with fail
            refine Calls.mono (rbad_f s n n _) ?_
            rintro e W3 ⟨rfl, b3⟩
            have S3 : Hid (Sp w W3 s n false) := S2.out.below b3
            clear c0 c1 c2 cf cl d0 d1 d2 df dl b3 S2
            obtain ⟨c0, c1, c2, cf, cl, d0, d1, d2, df, dl⟩ := S3.out.cells
            have HB : Hid _ := S3.out.done (.string s) (.int .i64 (n : Int)) (.bool true)
            go_wp2
            exact bodyPost_ret (v := .tuple #[.agg #[.string s, .int .i64 (n : Int), .bool true], .int .i64 0]) (by simp [results, Tryz.results98, go_sem, *]) rfl ⟨HBAD.out, HB.out⟩
        · clear hgo
          go_wp2_with fail
          refine Calls.mono (rbad_f s n n _) ?_
          rintro e W3 ⟨rfl, b3⟩
          have S3 : Hid (Sp w W3 s n false) := S2.out.below b3
          clear c0 c1 c2 cf cl d0 d1 d2 df dl b3 S2
          obtain ⟨c0, c1, c2, cf, cl, d0, d1, d2, df, dl⟩ := S3.out.cells
          have HB : Hid _ := S3.out.done (.string s) (.int .i64 (n : Int)) (.bool true)
          go_wp2
          exact bodyPost_ret (v := .tuple #[.agg #[.string s, .int .i64 (n : Int), .bool true], .int .i64 0]) (by simp [results, Tryz.results98, go_sem, *]) rfl ⟨HBAD.out, HB.out⟩
      · have hj11 : (j : Int) < 11 := by omega
        have hnd : ∀ hk : kk < s.size, isDigit s[kk] = false := fun hk => by
          cases h : isDigit s[kk] with
          | false => rfl
          | true => exact absurd ⟨hk, h, by omega⟩ hgo
        have HT : Hid (nDigits (dr s n) = (dr s i).take j ∧ nRest (dr s n) = dr s kk ∧ (nDigits (dr s n)).length = j ∧ dv (nDigits (dr s n)) = A) := by
          obtain ⟨q1, q2, q3⟩ := J.out
          have e := dig_stop s i j q3 (by rw [← q1]; exact nodig_dr s kk hnd)
          have e1 : nDigits (dr s n) = (dr s i).take j := by rw [HSG.out.2.1, e.1]
          refine ⟨e1, by rw [HSG.out.2.2, e.2, q1], ?_, by rw [e1, q2]⟩
          rw [e1, List.length_take, dr_len]; omega
        have hway : (¬ kk < s.size) ∨ (∃ h : kk < s.size, Hid (isDigit s[kk] = false)) := by
          by_cases hkl : kk < s.size
          · exact Or.inr ⟨hkl, hnd hkl⟩
          · exact Or.inl hkl
        have HKI : Hid (kk = i + j) := J.out.1
        clear hgo hnd J
        by_cases hj0 : j = 0
        · have HBAD : Hid _ := HB0.out (Or.inl (List.eq_nil_of_length_eq_zero (by rw [HT.out.2.2.1]; exact hj0)))
          have hkI : i = kk := by have := HKI.out; omega
          clear HB0 HG0 HT hsub HKI
          subst hkI
          rcases hway with hkl | ⟨hkl, HD⟩
          · go_wp2_with fail
            refine Calls.mono (rbad_f s n n _) ?_
            rintro e W3 ⟨rfl, b3⟩
            have S3 : Hid (Sp w W3 s n false) := S2.out.below b3
            clear c0 c1 c2 cf cl d0 d1 d2 df dl b3 S2
            obtain ⟨c0, c1, c2, cf, cl, d0, d1, d2, df, dl⟩ := S3.out.cells
            have HB : Hid _ := S3.out.done (.string s) (.int .i64 (n : Int)) (.bool true)
            go_wp2
            exact bodyPost_ret (v := .tuple #[.agg #[.string s, .int .i64 (n : Int), .bool true], .int .i64 0]) (by simp [results, Tryz.results98, go_sem, *]) rfl ⟨HBAD.out, HB.out⟩
          · go_wp2_with fail
            refine Calls.mono (rdigit_is _ _ HD.out) ?_
            rintro e V' ⟨rfl, hV'⟩
            subst V'
            go_wp2_with fail
            refine Calls.mono (rbad_f s n n _) ?_
            rintro e W3 ⟨rfl, b3⟩
            have S3 : Hid (Sp w W3 s n false) := S2.out.below b3
            clear c0 c1 c2 cf cl d0 d1 d2 df dl b3 S2
            obtain ⟨c0, c1, c2, cf, cl, d0, d1, d2, df, dl⟩ := S3.out.cells
            have HB : Hid _ := S3.out.done (.string s) (.int .i64 (n : Int)) (.bool true)
            go_wp2
            exact bodyPost_ret (v := .tuple #[.agg #[.string s, .int .i64 (n : Int), .bool true], .int .i64 0]) (by simp [results, Tryz.results98, go_sem, *]) rfl ⟨HBAD.out, HB.out⟩
        · have e1 : ((kk : Int) == (i : Int)) = false := by have := HKI.out; simp; omega
          have e1' : ¬ (kk : Int) = (i : Int) := by have := HKI.out; omega
          have hj10 : ¬ (10 : Int) < (j : Int) := by omega
          have hIl : i < s.size := by have := HKI.out; omega
          have HH : Hid (∃ r, nDigits (dr s n) = s[i] :: r) := by
            rw [Hid, HT.out.1]
            obtain ⟨j', rfl⟩ : ∃ j', j = j' + 1 := ⟨j - 1, by omega⟩
            exact ⟨(dr s (i + 1)).take j', by rw [dr_cons s i hIl]; rfl⟩
          have hs1 := hj0
          by_cases hlead : 1 < j ∧ (s[i].toNat : Int) = 48
          · obtain ⟨hl1, hl2⟩ := hlead
            have HBAD : Hid _ := HB0.out (Or.inr (Or.inr (Or.inl ⟨by rw [HT.out.2.2.1]; exact hl1, by obtain ⟨r, hr⟩ := HH.out; exact ⟨_, r, hr, by omega⟩⟩)))
            have hl1' : (1 : Int) < (j : Int) := by omega
            have e2 : ((s[i].toNat : Int) == 48) = true := by simpa using hl2
            clear HB0 HG0 HT HH
            rcases hway with hkl | ⟨hkl, HD⟩
            · go_wp2_with fail
              refine Calls.mono (rbad_f s n n _) ?_
              rintro e W3 ⟨rfl, b3⟩
              have S3 : Hid (Sp w W3 s n false) := S2.out.below b3
              clear c0 c1 c2 cf cl d0 d1 d2 df dl b3 S2
              obtain ⟨c0, c1, c2, cf, cl, d0, d1, d2, df, dl⟩ := S3.out.cells
              have HB : Hid _ := S3.out.done (.string s) (.int .i64 (n : Int)) (.bool true)
              go_wp2
              exact bodyPost_ret (v := .tuple #[.agg #[.string s, .int .i64 (n : Int), .bool true], .int .i64 0]) (by simp [results, Tryz.results98, go_sem, *]) rfl ⟨HBAD.out, HB.out⟩
            · go_wp2_with fail
              refine Calls.mono (rdigit_is _ _ HD.out) ?_
              rintro e V' ⟨rfl, hV'⟩
              subst V'
              go_wp2_with fail
              refine Calls.mono (rbad_f s n n _) ?_
              rintro e W3 ⟨rfl, b3⟩
              have S3 : Hid (Sp w W3 s n false) := S2.out.below b3
              clear c0 c1 c2 cf cl d0 d1 d2 df dl b3 S2
              obtain ⟨c0, c1, c2, cf, cl, d0, d1, d2, df, dl⟩ := S3.out.cells
              have HB : Hid _ := S3.out.done (.string s) (.int .i64 (n : Int)) (.bool true)
              go_wp2
              exact bodyPost_ret (v := .tuple #[.agg #[.string s, .int .i64 (n : Int), .bool true], .int .i64 0]) (by simp [results, Tryz.results98, go_sem, *]) rfl ⟨HBAD.out, HB.out⟩
          · have HNL : Hid (¬ (1 < (nDigits (dr s n)).length ∧ ∃ c r, nDigits (dr s n) = c :: r ∧ c.toNat = 48)) := by
              rintro ⟨h1, c, r, h2, h3⟩
              obtain ⟨r', hr'⟩ := HH.out
              rw [hr'] at h2
              injection h2 with h2 _
              rw [HT.out.2.2.1] at h1
              exact hlead ⟨h1, by rw [h2]; omega⟩
            have hle : (¬ (1 : Int) < (j : Int)) ∨ ((1 : Int) < (j : Int) ∧ ((s[i].toNat : Int) == 48) = false) := by
              by_cases h1 : 1 < j
              · refine Or.inr ⟨by omega, ?_⟩
                have : ¬ (s[i].toNat : Int) = 48 := fun h => hlead ⟨h1, h⟩
                simpa using this
              · exact Or.inl (by omega)
            clear hlead
            by_cases hA0 : A = 0
            · have HBAD : Hid _ := HB0.out (Or.inr (Or.inr (Or.inr ⟨by rw [HSG.out.1]; simp, by rw [HT.out.2.2.2]; exact hA0⟩)))
              have e3 : ((A : Int) == 0) = true := by simpa using hA0
              clear HB0 HG0 HT HH HNL
              rcases hle with hle | ⟨hle, hle2⟩
              all_goals
                rcases hway with hkl | ⟨hkl, HD⟩
                · go_wp2_with fail
                  refine Calls.mono (rbad_f s n n _) ?_
                  rintro e W3 ⟨rfl, b3⟩
                  have S3 : Hid (Sp w W3 s n false) := S2.out.below b3
                  clear c0 c1 c2 cf cl d0 d1 d2 df dl b3 S2
                  obtain ⟨c0, c1, c2, cf, cl, d0, d1, d2, df, dl⟩ := S3.out.cells
                  have HB : Hid _ := S3.out.done (.string s) (.int .i64 (n : Int)) (.bool true)
                  go_wp2
                  exact bodyPost_ret (v := .tuple #[.agg #[.string s, .int .i64 (n : Int), .bool true], .int .i64 0]) (by simp [results, Tryz.results98, go_sem, *]) rfl ⟨HBAD.out, HB.out⟩
                · go_wp2_with fail
                  refine Calls.mono (rdigit_is _ _ HD.out) ?_
                  rintro e V' ⟨rfl, hV'⟩
                  subst V'
                  go_wp2_with fail
                  refine Calls.mono (rbad_f s n n _) ?_
                  rintro e W3 ⟨rfl, b3⟩
                  have S3 : Hid (Sp w W3 s n false) := S2.out.below b3
                  clear c0 c1 c2 cf cl d0 d1 d2 df dl b3 S2
                  obtain ⟨c0, c1, c2, cf, cl, d0, d1, d2, df, dl⟩ := S3.out.cells
                  have HB : Hid _ := S3.out.done (.string s) (.int .i64 (n : Int)) (.bool true)
                  go_wp2
                  exact bodyPost_ret (v := .tuple #[.agg #[.string s, .int .i64 (n : Int), .bool true], .int .i64 0]) (by simp [results, Tryz.results98, go_sem, *]) rfl ⟨HBAD.out, HB.out⟩
            · have e3 : ((A : Int) == 0) = false := by simpa using hA0
              have HGD : Hid _ := HG0.out kk (-(A : Int)) (fun hb => by
                rcases hb with h | h | h | h
                · have := HT.out.2.2.1; rw [h] at this; simp at this; omega
                · rw [HT.out.2.2.1] at h; omega
                · exact HNL.out h
                · exact hA0 (by rw [← HT.out.2.2.2]; exact h.2)) HT.out.2.1 hkk (by unfold nVal; rw [HSG.out.1, HT.out.2.2.2]; rfl)
              have HB : Hid _ := (S2.out.set1 kk).done (.string s) (.int .i64 (kk : Int)) (.bool false)
              clear HB0 HG0 HT HH HNL S2
              rcases hle with hle | ⟨hle, hle2⟩
              all_goals
                rcases hway with hkl | ⟨hkl, HD⟩
                · go_wp2
                  refine bodyPost_ret (v := .tuple #[.agg #[.string s, .int .i64 (kk : Int), .bool false], .int .i64 (-(A : Int))]) (by simp [results, Tryz.results98, go_sem, *]) rfl ⟨HGD.out, HB.out⟩
                · go_wp2_with fail
                  refine Calls.mono (rdigit_is _ _ HD.out) ?_
                  rintro e V' ⟨rfl, hV'⟩
                  subst V'
                  go_wp2
                  refine bodyPost_ret (v := .tuple #[.agg #[.string s, .int .i64 (kk : Int), .bool false], .int .i64 (-(A : Int))]) (by simp [results, Tryz.results98, go_sem, *]) rfl ⟨HGD.out, HB.out⟩

set_option maxRecDepth 100000 in
set_option maxHeartbeats 8000000 in
theorem rnumber_p (s : ByteArray) (k : Nat) (w : World) (hk : k ≤ s.size) (hs : s.size ≤ 1000) (n : Nat) (hnb : nb s k = n) (hlt : n < s.size) (hc : ¬ (s[n].toNat : Int) = 45) : Calls Tryz.prog 98 #[.agg #[.string s, .int .i64 (k : Int), .bool false]] w fun e w' => RdV e s (rNumber (dr s k)) (.int .i64 (nmV (rNumber (dr s k)))) ∧ Below w.heap.size w w' := by
  have HS : Hid (Sp w _ s k false) := Sp.init w s k false
  have HBL : Hid _ := fun W => rblanks_f s k W hk hs
  have hnd := nb_dr s k
  have hnl := nb_le s k
  rw [hnb] at hnd hnl HBL
  have HN : Hid (dr s n = (dr s k).dropWhile isBlank) := hnd
  clear hnd hnb
  go_enter Tryz.func98, Tryz.ntmps98
  go_wp2_with fail
  refine Calls.mono (HBL.out _) ?_
  rintro e W1 ⟨rfl, b1⟩
  have S1 : Hid (Sp w W1 s k false) := HS.out.below b1
  obtain ⟨c0, c1, c2, cf, cl, d0, d1, d2, df, dl⟩ := S1.out.cells
  clear b1 HS HBL
  go_upto_region 2 with fail
  obtain ⟨V, hV⟩ : ∃ V, V = ((W1.setCell ⟨w.heap.size, 0, none⟩ (.string s)).setCell ⟨w.heap.size, 1, none⟩ (.int .i64 (n : Int))).setCell ⟨w.heap.size, 2, none⟩ (.bool false) := ⟨_, rfl⟩
  rw [← hV]
  have S2 : Hid (Sp w V s n false) := by rw [Hid, hV]; exact S1.out.set3 n false
  clear c0 c1 c2 cf cl d0 d1 d2 df dl hV S1
  obtain ⟨c0, c1, c2, cf, cl, d0, d1, d2, df, dl⟩ := S2.out.cells
  have HSG : Hid (nSign (dr s n) = [] ∧ nDigits (dr s n) = (dr s n).takeWhile isDigit ∧ nRest (dr s n) = (dr s n).dropWhile isDigit) := sgn_no s n hlt (by omega)
  have hil : n ≤ s.size := hnl
  have hb1 : ((s[n].toNat : Int) == 45) = false := by simpa using hc
  have HB0 : Hid (nBad (dr s n) → RdV (.returned (.tuple #[.agg #[.string s, .int .i64 (n : Int), .bool true], .int .i64 0])) s (rNumber (dr s k)) (.int .i64 (nmV (rNumber (dr s k))))) := fun h => nm_bad s k n HN.out hnl (fun _ => h)
  have HG0 : Hid (∀ (kk : Nat) (v : Int), ¬ nBad (dr s n) → nRest (dr s n) = dr s kk → kk ≤ s.size → nVal (dr s n) = v → RdV (.returned (.tuple #[.agg #[.string s, .int .i64 (kk : Int), .bool false], .int .i64 v])) s (rNumber (dr s k)) (.int .i64 (nmV (rNumber (dr s k))))) := fun kk v h1 h2 h3 h4 => nm_good s k n kk v HN.out hlt h1 h2 h3 h4
  go_wp2_with fail
  go_loopg [6, 7] 11 (fun kx a b wr => ∃ j kk A : Nat, a = .int .i64 (A : Int) ∧ b = .int .i64 (kk : Int) ∧ j ≤ 11 ∧ kk ≤ s.size ∧ kx = 11 - j ∧ V = wr ∧ A < 100000000000 ∧ Hid (kk = n + j ∧ A = dv ((dr s n).take j) ∧ ∀ c ∈ (dr s n).take j, isDigit c = true))
  case atStart => exact ⟨0, n, 0, rfl, rfl, by omega, hil, rfl, rfl, by omega, (⟨by omega, by simp [dv, dva], by simp⟩ : _ ∧ _ ∧ _)⟩
  case round =>
    obtain ⟨j, kk, A, rfl, rfl, hj, hkk, rfl, rfl, hA, J⟩ := hrel
    have hsub : (kk : Int) - (n : Int) = (j : Int) := by have := J.out.1; omega
    by_cases hgo : ∃ h : kk < s.size, isDigit s[kk] = true ∧ j < 11
    · obtain ⟨hkl, hdg, hj11⟩ := hgo
      have HD : Hid (isDigit s[kk] = true) := hdg
      have hcc : (48 : Int) ≤ (s[kk].toNat : Int) ∧ (s[kk].toNat : Int) ≤ 57 := by unfold isDigit at hdg; simp at hdg; omega
      obtain ⟨hc1, hc2⟩ := hcc
      have J2 : Hid (kk + 1 = n + (j + 1) ∧ 10 * A + (s[kk].toNat - 48) = dv ((dr s n).take (j + 1)) ∧ (∀ c ∈ (dr s n).take (j + 1), isDigit c = true) ∧ 10 * A + (s[kk].toNat - 48) < 100000000000) := by
        obtain ⟨q1, q2, q3⟩ := J.out
        subst q1
        have e := take_dig s n j hkl
        have hall : ∀ c ∈ (dr s n).take (j + 1), isDigit c = true := by
          rw [e]; intro c hc
          rcases List.mem_append.1 hc with h | h
          · exact q3 c h
          · rw [List.mem_singleton.1 h]; exact HD.out
        have ed : 10 * A + (s[n + j].toNat - 48) = dv ((dr s n).take (j + 1)) := by rw [e, dv_snoc, ← q2]
        refine ⟨by omega, ed, hall, ?_⟩
        rw [ed]
        exact dv_bd _ hall (by rw [List.length_take]; omega)
      clear hdg
      go_wp2_with fail
      refine Calls.mono (rdigit_is _ _ HD.out) ?_
      rintro e V' ⟨rfl, hV'⟩
      subst V'

      go_wp2
      go_roundg (11 - (j + 1))
      case measure => omega
      case rel => exact ⟨j + 1, kk + 1, 10 * A + (s[kk].toNat - 48), int_eq (by omega), by go_num, by omega, by omega, rfl, rfl, J2.out.2.2.2, (⟨J2.out.1, J2.out.2.1, J2.out.2.2.1⟩ : _ ∧ _ ∧ _)⟩
    · by_cases h11 : j = 11
      · have hbad : nBad (dr s n) := by
          obtain ⟨q1, q2, q3⟩ := J.out
          have := dig_many s n j q3 (by omega)
          refine Or.inr (Or.inl ?_)
          rw [HSG.out.2.1]; omega
        have HBAD : Hid _ := HB0.out hbad
        have e1 : ((kk : Int) == (n : Int)) = false := by simp; omega
        have e1' : ¬ (kk : Int) = (n : Int) := by omega
        have hj10 : (10 : Int) < (j : Int) := by omega
        have hj11' : ¬ (j : Int) < 11 := by omega
        clear hbad HB0 HG0 J
        by_cases hkl : kk < s.size
        · cases hdg : isDigit s[kk] with
          | true =>
            have HD : Hid (isDigit s[kk] = true) := hdg
            clear hdg hgo
            go_wp2_with fail
            refine Calls.mono (rdigit_is _ _ HD.out) ?_
            rintro e V' ⟨rfl, hV'⟩
            subst V'
            go_wp2_with fail
            refine Calls.mono (rbad_f s n n _) ?_
            rintro e W3 ⟨rfl, b3⟩
            have S3 : Hid (Sp w W3 s n false) := S2.out.below b3
            clear c0 c1 c2 cf cl d0 d1 d2 df dl b3 S2
            obtain ⟨c0, c1, c2, cf, cl, d0, d1, d2, df, dl⟩ := S3.out.cells
            have HB : Hid _ := S3.out.done (.string s) (.int .i64 (n : Int)) (.bool true)
            go_wp2
            exact bodyPost_ret (v := .tuple #[.agg #[.string s, .int .i64 (n : Int), .bool true], .int .i64 0]) (by simp [results, Tryz.results98, go_sem, *]) rfl ⟨HBAD.out, HB.out⟩
          | false =>
            have HD : Hid (isDigit s[kk] = false) := hdg
            clear hdg hgo
            go_wp2_with fail
            refine Calls.mono (rdigit_is _ _ HD.out) ?_
            rintro e V' ⟨rfl, hV'⟩
            subst V'
            go_wp2_with fail
            refine Calls.mono (rbad_f s n n _) ?_
            rintro e W3 ⟨rfl, b3⟩
            have S3 : Hid (Sp w W3 s n false) := S2.out.below b3
            clear c0 c1 c2 cf cl d0 d1 d2 df dl b3 S2
            obtain ⟨c0, c1, c2, cf, cl, d0, d1, d2, df, dl⟩ := S3.out.cells
            have HB : Hid _ := S3.out.done (.string s) (.int .i64 (n : Int)) (.bool true)
            go_wp2
            exact bodyPost_ret (v := .tuple #[.agg #[.string s, .int .i64 (n : Int), .bool true], .int .i64 0]) (by simp [results, Tryz.results98, go_sem, *]) rfl ⟨HBAD.out, HB.out⟩
        · clear hgo
          go_wp2_with fail
          refine Calls.mono (rbad_f s n n _) ?_
          rintro e W3 ⟨rfl, b3⟩
          have S3 : Hid (Sp w W3 s n false) := S2.out.below b3
          clear c0 c1 c2 cf cl d0 d1 d2 df dl b3 S2
          obtain ⟨c0, c1, c2, cf, cl, d0, d1, d2, df, dl⟩ := S3.out.cells
          have HB : Hid _ := S3.out.done (.string s) (.int .i64 (n : Int)) (.bool true)
          go_wp2
          exact bodyPost_ret (v := .tuple #[.agg #[.string s, .int .i64 (n : Int), .bool true], .int .i64 0]) (by simp [results, Tryz.results98, go_sem, *]) rfl ⟨HBAD.out, HB.out⟩
      · have hj11 : (j : Int) < 11 := by omega
        have hnd : ∀ hk : kk < s.size, isDigit s[kk] = false := fun hk => by
          cases h : isDigit s[kk] with
          | false => rfl
          | true => exact absurd ⟨hk, h, by omega⟩ hgo
        have HT : Hid (nDigits (dr s n) = (dr s n).take j ∧ nRest (dr s n) = dr s kk ∧ (nDigits (dr s n)).length = j ∧ dv (nDigits (dr s n)) = A) := by
          obtain ⟨q1, q2, q3⟩ := J.out
          have e := dig_stop s n j q3 (by rw [← q1]; exact nodig_dr s kk hnd)
          have e1 : nDigits (dr s n) = (dr s n).take j := by rw [HSG.out.2.1, e.1]
          refine ⟨e1, by rw [HSG.out.2.2, e.2, q1], ?_, by rw [e1, q2]⟩
          rw [e1, List.length_take, dr_len]; omega
        have hway : (¬ kk < s.size) ∨ (∃ h : kk < s.size, Hid (isDigit s[kk] = false)) := by
          by_cases hkl : kk < s.size
          · exact Or.inr ⟨hkl, hnd hkl⟩
          · exact Or.inl hkl
        have HKI : Hid (kk = n + j) := J.out.1
        clear hgo hnd J
        by_cases hj0 : j = 0
        · have HBAD : Hid _ := HB0.out (Or.inl (List.eq_nil_of_length_eq_zero (by rw [HT.out.2.2.1]; exact hj0)))
          have hkI : n = kk := by have := HKI.out; omega
          clear HB0 HG0 HT hsub HKI
          subst hkI
          rcases hway with hkl | ⟨hkl, HD⟩
          · exact absurd hlt hkl
          · go_wp2_with fail
            refine Calls.mono (rdigit_is _ _ HD.out) ?_
            rintro e V' ⟨rfl, hV'⟩
            subst V'
            go_wp2_with fail
            refine Calls.mono (rbad_f s n n _) ?_
            rintro e W3 ⟨rfl, b3⟩
            have S3 : Hid (Sp w W3 s n false) := S2.out.below b3
            clear c0 c1 c2 cf cl d0 d1 d2 df dl b3 S2
            obtain ⟨c0, c1, c2, cf, cl, d0, d1, d2, df, dl⟩ := S3.out.cells
            have HB : Hid _ := S3.out.done (.string s) (.int .i64 (n : Int)) (.bool true)
            go_wp2
            exact bodyPost_ret (v := .tuple #[.agg #[.string s, .int .i64 (n : Int), .bool true], .int .i64 0]) (by simp [results, Tryz.results98, go_sem, *]) rfl ⟨HBAD.out, HB.out⟩
        · have e1 : ((kk : Int) == (n : Int)) = false := by have := HKI.out; simp; omega
          have e1' : ¬ (kk : Int) = (n : Int) := by have := HKI.out; omega
          have hj10 : ¬ (10 : Int) < (j : Int) := by omega
          have hIl : n < s.size := by have := HKI.out; omega
          have HH : Hid (∃ r, nDigits (dr s n) = s[n] :: r) := by
            rw [Hid, HT.out.1]
            obtain ⟨j', rfl⟩ : ∃ j', j = j' + 1 := ⟨j - 1, by omega⟩
            exact ⟨(dr s (n + 1)).take j', by rw [dr_cons s n hIl]; rfl⟩
          have hs1 := hj0
          by_cases hlead : 1 < j ∧ (s[n].toNat : Int) = 48
          · obtain ⟨hl1, hl2⟩ := hlead
            have HBAD : Hid _ := HB0.out (Or.inr (Or.inr (Or.inl ⟨by rw [HT.out.2.2.1]; exact hl1, by obtain ⟨r, hr⟩ := HH.out; exact ⟨_, r, hr, by omega⟩⟩)))
            have hl1' : (1 : Int) < (j : Int) := by omega
            have e2 : ((s[n].toNat : Int) == 48) = true := by simpa using hl2
            clear HB0 HG0 HT HH
            rcases hway with hkl | ⟨hkl, HD⟩
            · go_wp2_with fail
              refine Calls.mono (rbad_f s n n _) ?_
              rintro e W3 ⟨rfl, b3⟩
              have S3 : Hid (Sp w W3 s n false) := S2.out.below b3
              clear c0 c1 c2 cf cl d0 d1 d2 df dl b3 S2
              obtain ⟨c0, c1, c2, cf, cl, d0, d1, d2, df, dl⟩ := S3.out.cells
              have HB : Hid _ := S3.out.done (.string s) (.int .i64 (n : Int)) (.bool true)
              go_wp2
              exact bodyPost_ret (v := .tuple #[.agg #[.string s, .int .i64 (n : Int), .bool true], .int .i64 0]) (by simp [results, Tryz.results98, go_sem, *]) rfl ⟨HBAD.out, HB.out⟩
            · go_wp2_with fail
              refine Calls.mono (rdigit_is _ _ HD.out) ?_
              rintro e V' ⟨rfl, hV'⟩
              subst V'
              go_wp2_with fail
              refine Calls.mono (rbad_f s n n _) ?_
              rintro e W3 ⟨rfl, b3⟩
              have S3 : Hid (Sp w W3 s n false) := S2.out.below b3
              clear c0 c1 c2 cf cl d0 d1 d2 df dl b3 S2
              obtain ⟨c0, c1, c2, cf, cl, d0, d1, d2, df, dl⟩ := S3.out.cells
              have HB : Hid _ := S3.out.done (.string s) (.int .i64 (n : Int)) (.bool true)
              go_wp2
              exact bodyPost_ret (v := .tuple #[.agg #[.string s, .int .i64 (n : Int), .bool true], .int .i64 0]) (by simp [results, Tryz.results98, go_sem, *]) rfl ⟨HBAD.out, HB.out⟩
          · have HNL : Hid (¬ (1 < (nDigits (dr s n)).length ∧ ∃ c r, nDigits (dr s n) = c :: r ∧ c.toNat = 48)) := by
              rintro ⟨h1, c, r, h2, h3⟩
              obtain ⟨r', hr'⟩ := HH.out
              rw [hr'] at h2
              injection h2 with h2 _
              rw [HT.out.2.2.1] at h1
              exact hlead ⟨h1, by rw [h2]; omega⟩
            have hle : (¬ (1 : Int) < (j : Int)) ∨ ((1 : Int) < (j : Int) ∧ ((s[n].toNat : Int) == 48) = false) := by
              by_cases h1 : 1 < j
              · refine Or.inr ⟨by omega, ?_⟩
                have : ¬ (s[n].toNat : Int) = 48 := fun h => hlead ⟨h1, h⟩
                simpa using this
              · exact Or.inl (by omega)
            clear hlead
            have HGD : Hid _ := HG0.out kk (A : Int) (fun hb => by
              rcases hb with h | h | h | h
              · have := HT.out.2.2.1; rw [h] at this; simp at this; omega
              · rw [HT.out.2.2.1] at h; omega
              · exact HNL.out h
              · exact h.1 HSG.out.1) HT.out.2.1 hkk (by unfold nVal; rw [HSG.out.1, HT.out.2.2.2]; rfl)
            have HB : Hid _ := (S2.out.set1 kk).done (.string s) (.int .i64 (kk : Int)) (.bool false)
            clear HB0 HG0 HT HH HNL S2
            rcases hle with hle | ⟨hle, hle2⟩
            all_goals
              rcases hway with hkl | ⟨hkl, HD⟩
              · go_wp2
                refine bodyPost_ret (v := .tuple #[.agg #[.string s, .int .i64 (kk : Int), .bool false], .int .i64 (A : Int)]) (by simp [results, Tryz.results98, go_sem, *]) rfl ⟨HGD.out, HB.out⟩
              · go_wp2_with fail
                refine Calls.mono (rdigit_is _ _ HD.out) ?_
                rintro e V' ⟨rfl, hV'⟩
                subst V'
                go_wp2
                refine bodyPost_ret (v := .tuple #[.agg #[.string s, .int .i64 (kk : Int), .bool false], .int .i64 (A : Int)]) (by simp [results, Tryz.results98, go_sem, *]) rfl ⟨HGD.out, HB.out⟩

theorem rnumber_f (s : ByteArray) (k : Nat) (w : World) (hk : k ≤ s.size) (hs : s.size ≤ 1000) : Calls Tryz.prog 98 #[.agg #[.string s, .int .i64 (k : Int), .bool false]] w fun e w' => RdV e s (rNumber (dr s k)) (.int .i64 (nmV (rNumber (dr s k)))) ∧ Below w.heap.size w w' := by
  by_cases hlt : nb s k < s.size
  · by_cases hc : (s[nb s k].toNat : Int) = 45
    · exact rnumber_m s k w hk hs _ rfl hlt hc
    · exact rnumber_p s k w hk hs _ rfl hlt hc
  · exact rnumber_e s k w hk hs _ rfl hlt
end Go.Proofs.YtpepbhmdfjpblaaGreatDoor

/- The document's reader (wigwagref06): str. -/
namespace Go.Proofs.YtpepbhmdfjpblaaGreatDoor
open Go.ChangeShapes Go.WideShapes Go.ChangeAt Go.RowKit
set_option linter.unusedVariables false

theorem own_carryR {B : Nat} {w w' : World} {e : TypeId} {k n : Nat} {v : Value} {xs : List Value} (h : w.ownsRow B e k v n xs) (hb : Below w.heap.size w w') : w'.ownsRow B e k v n xs := by
  refine ⟨h.1, ?_⟩
  rcases h.2 with h1 | ⟨g', cap, cur, hv, hbg, hg, hr⟩
  · exact .inl h1
  · exact .inr ⟨g', cap, cur, hv, hbg, (hb.block g' (lt_of_block hg)).trans hg, hr⟩
/-- The place, the answer's block, and the bytes so far. -/
structure StR (w W : World) (s : ByteArray) (j : Nat) (v : Value) (acc : List UInt8) : Prop where
  sp : Sp w W s j false
  row : W.ownsRow (w.heap.size + 2) 5 1 v acc.length (acc.map cellB)
theorem StR.far0 {w W : World} {s : ByteArray} {j : Nat} {v : Value} {acc : List UInt8} (h : StR w W s j v acc) : v.ownBlock ≠ some w.heap.size := fun e => by have := (h.row.lt _ e).1; omega
theorem StR.far1 {w W : World} {s : ByteArray} {j : Nat} {v : Value} {acc : List UInt8} (h : StR w W s j v acc) : v.ownBlock ≠ some (w.heap.size + 1) := fun e => by have := (h.row.lt _ e).1; omega
theorem StR.le {w W : World} {s : ByteArray} {j : Nat} {v : Value} {acc : List UInt8} (h : StR w W s j v acc) : w.heap.size + 2 ≤ W.heap.size := lt_of_block h.sp.out
theorem StR.set1 {w W : World} {s : ByteArray} {j : Nat} {v : Value} {acc : List UInt8} (h : StR w W s j v acc) (i : Nat) : StR w (W.setCell ⟨w.heap.size, 1, none⟩ (.int .i64 (i : Int))) s i v acc :=
  ⟨h.sp.set1 i, ownsRow_setCell_other h.row (a := ⟨w.heap.size, 1, none⟩) h.far0 _⟩
theorem StR.start {w W : World} {s : ByteArray} {k : Nat} {b : Bool} (h : Sp w W s k b) (n : Nat) : StR w ((((W.setCell ⟨w.heap.size, 0, none⟩ (.string s)).setCell ⟨w.heap.size, 1, none⟩ (.int .i64 (n : Int))).setCell ⟨w.heap.size, 2, none⟩ (.bool false)).alloc (.cells #[] 5)) s n (.slice (some ⟨(((W.setCell ⟨w.heap.size, 0, none⟩ (.string s)).setCell ⟨w.heap.size, 1, none⟩ (.int .i64 (n : Int))).setCell ⟨w.heap.size, 2, none⟩ (.bool false)).heap.size, 0, none⟩) 0 0) [] :=
  ⟨(h.set3 n false).below ((Below.refl _ _).alloc (Nat.le_refl _) _), World.ownsRow_made _ #[] 0 (lt_of_block (h.set3 n false).out) (Nat.zero_le _) rfl⟩
theorem StR.app {w W W2 : World} {s : ByteArray} {j : Nat} {v v' : Value} {acc : List UInt8} {c : UInt8} {o : Obj} (h : StR w W s j v acc) (ha : Appended (w.heap.size + 2) 5 (W.alloc o) W2 v v' (acc.length + 1) (acc.map cellB ++ [cellB c])) : StR w W2 s j v' (acc ++ [c]) := by
  have hg := ha.grown
  have h1 : Below W.heap.size W (W.alloc o) := (Below.refl _ _).alloc (Nat.le_refl _) o
  have hs := h.sp.below h1
  have hle := h.le
  have hsz := h1.size
  refine ⟨⟨(hg.block _ (lt_of_block hs.box) (fun e => h.far0 e.symm)).trans hs.box, (hg.block _ (lt_of_block hs.out) (fun e => h.far1 e.symm)).trans hs.out, hs.bel.trans ⟨hg.os, hg.tape, hg.output, hg.size, fun k hk => hg.block k (by omega) (fun e => by have := (h.row.lt k e.symm).1; omega)⟩⟩, ?_⟩
  have := ha.row
  simpa using this
theorem src_byR (w : World) (c : UInt8) (x : Nat) (hx : x = w.heap.size) :
    Src Tryz.prog 1 225 (.slice (some ⟨x, 0, none⟩) 1 1) 1 [cellB c] (w.alloc (.cells #[.int .u8 (c.toNat : Int)] 5)) :=
  Src.ofSlice _ Tryz.underlying225 _ 1 1 _ rfl (fun j u hu => by
    subst hx
    have := World.news_of_block (cs := #[.int .u8 (c.toNat : Int)]) (t := 5) (fr := (0, 0)) (heap_alloc_new w _) j u (by simpa [cellB] using hu)
    exact this) (by simp [cellB, Value.oneCell'])
theorem conv_ownR {W : World} {B : Nat} {v : Value} {acc : List UInt8} (hrow : W.ownsRow B 5 1 v acc.length (acc.map cellB)) : (convert 225 9 v).run Tryz.prog W = .ok (.string (ba acc)) W := by
  rcases hrow.2 with ⟨hv, hn⟩ | ⟨g, cap, cur, hv, hbg, hg, hnc, hcm, hcs, htake⟩
  · have hl : acc = [] := List.eq_nil_of_length_eq_zero hn
    subst hl
    subst hv
    exact run_convert_bytes_nil (P := Tryz.prog) W 225 5 Tryz.underlying225 Tryz.underlying5 0 0 9 Tryz.underlying9
  · rw [hv]
    exact run_convert_bytes_back (P := Tryz.prog) W 225 9 5 ⟨g, 0, none⟩ cap acc Tryz.underlying225 Tryz.underlying5 Tryz.underlying9 (fun i hi => by
      have := hrow.cells (g := g) (by rw [hv]; rfl) i (cellB acc[i]) (by simp [hi])
      exact this)

set_option maxRecDepth 100000 in
set_option maxHeartbeats 2000000 in
theorem rstr_t (s : ByteArray) (k : Nat) (w : World) : Calls Tryz.prog 95 #[.agg #[.string s, .int .i64 (k : Int), .bool true]] w fun e w' => e = .returned (.tuple #[.agg #[.string s, .int .i64 (k : Int), .bool true], .string ⟨#[]⟩]) ∧ Below w.heap.size w w' := by
  have HS : Hid (Sp w _ s k true) := Sp.init w s k true
  go_enter Tryz.func95, Tryz.ntmps95
  go_wp2_with fail
  refine Calls.mono (rmark_t s ⟨#[34]⟩ k _) ?_
  rintro e W1 ⟨rfl, b1⟩
  have S1 : Hid (Sp w W1 s k true) := HS.out.below b1
  have S2 : Hid (Sp w _ s k true) := (S1.out.set3 k true).below ((Below.refl _ _).alloc (Nat.le_refl _) (.cells #[] 5))
  obtain ⟨c0, c1, c2, cf, cl, d0, d1, d2, df, dl⟩ := S1.out.cells
  clear b1 HS S1
  go_wp2_with fail
  clear c0 c1 c2 cf cl d0 d1 d2 df dl
  go_loopg [] 0 (fun kx wr => kx = 0 ∧ Hid (Sp w wr s k true))
  case atStart => exact ⟨rfl, S2⟩
  case round =>
    obtain ⟨hkx, I⟩ := hrel
    obtain ⟨c0, c1, c2, cf, cl, d0, d1, d2, df, dl⟩ := I.out.cells
    have HB : Hid _ := I.out.done (.string s) (.int .i64 (k : Int)) (.bool true)
    go_wp2
    exact bodyPost_ret (v := .tuple #[.agg #[.string s, .int .i64 (k : Int), .bool true], .string ⟨#[]⟩]) (by simp [results, Tryz.results95, go_sem, *]) rfl ⟨rfl, HB.out⟩

set_option maxRecDepth 100000 in
set_option maxHeartbeats 8000000 in
theorem rstr_f (s : ByteArray) (k : Nat) (w : World) (hk : k ≤ s.size) (hs : s.size ≤ 1000) : Calls Tryz.prog 95 #[.agg #[.string s, .int .i64 (k : Int), .bool false]] w fun e w' => RdV e s (rStr (dr s k)) (.string (wdV (rStr (dr s k)))) ∧ Below w.heap.size w w' := by
  obtain ⟨i0, hi, hz0, hz1, hz2⟩ := info_parts Tryz.infoU8
  have HS : Hid (Sp w _ s k false) := Sp.init w s k false
  have hmk := fun W => rmark_f s ⟨#[34]⟩ k W hk hs (by decide) (by decide)
  have em : (⟨#[34]⟩ : ByteArray).data.toList = [34] := rfl
  rw [em] at hmk
  have HMK : Hid _ := hmk
  clear hmk em
  have HMS : Hid ((rMark [34] (dr s k)).left <:+ dr s k) := rMark_suf _ _
  cases hres : rMark [34] (dr s k) with
  | fail ee r =>
    rw [hres] at HMK HMS
    have HW : Hid (rStr (dr s k) = .fail ee r) := by
      show rStr (dr s k) = .fail ee r
      unfold rStr; rw [hres]
    obtain ⟨n, hn⟩ : ∃ n, n = pos s r := ⟨_, rfl⟩
    have HMK2 : Hid (∀ W, Calls Tryz.prog 96 #[.agg #[.string s, .int .i64 (k : Int), .bool false], .string ⟨#[34]⟩] W fun e w' => e = .returned (.agg #[.string s, .int .i64 (n : Int), .bool true]) ∧ Below W.heap.size W w') := by
      rw [Hid, hn]; exact HMK.out
    have HN : Hid (n = pos s r) := hn
    clear hn HMK hres HMS
    go_enter Tryz.func95, Tryz.ntmps95
    go_wp2_with fail
    refine Calls.mono (HMK2.out _) ?_
    rintro e W1 ⟨rfl, b1⟩
    have S1 : Hid (Sp w W1 s k false) := HS.out.below b1
    have S2 : Hid (Sp w _ s n true) := (S1.out.set3 n true).below ((Below.refl _ _).alloc (Nat.le_refl _) (.cells #[] 5))
    obtain ⟨c0, c1, c2, cf, cl, d0, d1, d2, df, dl⟩ := S1.out.cells
    clear b1 HS S1
    go_wp2_with fail
    clear c0 c1 c2 cf cl d0 d1 d2 df dl
    go_loopg [] 0 (fun kx wr => kx = 0 ∧ Hid (Sp w wr s n true))
    case atStart => exact ⟨rfl, S2⟩
    case round =>
      obtain ⟨hkx, I⟩ := hrel
      obtain ⟨c0, c1, c2, cf, cl, d0, d1, d2, df, dl⟩ := I.out.cells
      have HB : Hid _ := I.out.done (.string s) (.int .i64 (n : Int)) (.bool true)
      go_wp2
      refine bodyPost_ret (v := .tuple #[.agg #[.string s, .int .i64 (n : Int), .bool true], .string ⟨#[]⟩]) (by simp [results, Tryz.results95, go_sem, *]) rfl ⟨?_, HB.out⟩
      rw [HW.out, HN.out]
      rfl
  | ok u r =>
    rw [hres] at HMK HMS
    obtain ⟨n, hn⟩ : ∃ n, n = pos s r := ⟨_, rfl⟩
    have hnd : dr s n = r := by rw [hn]; exact dr_posd HMS.out
    have hnl : n ≤ s.size := by rw [hn]; exact pos_le _ _
    have HW : Hid (rStr (dr s k) = rChars [] (dr s n)) := by
      show rStr (dr s k) = rChars [] (dr s n)
      unfold rStr; rw [hres, hnd]
    have HMK2 : Hid (∀ W, Calls Tryz.prog 96 #[.agg #[.string s, .int .i64 (k : Int), .bool false], .string ⟨#[34]⟩] W fun e w' => e = .returned (.agg #[.string s, .int .i64 (n : Int), .bool false]) ∧ Below W.heap.size W w') := by
      rw [Hid, hn]; exact HMK.out
    clear hn HMK hres HMS hnd
    go_enter Tryz.func95, Tryz.ntmps95
    go_wp2_with fail
    refine Calls.mono (HMK2.out _) ?_
    rintro e W1 ⟨rfl, b1⟩
    have S1 : Hid (Sp w W1 s k false) := HS.out.below b1
    have S2 : Hid (StR w _ s n _ []) := StR.start S1.out n
    obtain ⟨c0, c1, c2, cf, cl, d0, d1, d2, df, dl⟩ := S1.out.cells
    clear b1 HS S1 HMK2
    go_wp2_with fail
    clear c0 c1 c2 cf cl d0 d1 d2 df dl
    go_loopg [4] (s.size - n) (fun kx s4 wr => ∃ (j : Nat) (acc : List UInt8) (m : Nat) (a : Option Addr) (c : Nat), s4 = .slice a m c ∧ j ≤ s.size ∧ m ≤ j ∧ kx = s.size - j ∧ Hid (m = acc.length ∧ StR w wr s j (.slice a m c) acc ∧ rStr (dr s k) = rChars acc (dr s j)))
    case atStart => exact ⟨n, [], 0, _, 0, rfl, hnl, Nat.zero_le _, rfl, (⟨rfl, by simpa using S2.out, HW.out⟩ : _ ∧ _ ∧ _)⟩
    case round =>
      obtain ⟨j, acc, m, a, c, rfl, hj, hmj, hkx, I⟩ := hrel
      obtain ⟨c0, c1, c2, cf, cl, d0, d1, d2, df, dl⟩ := I.out.2.1.sp.cells
      have hle := I.out.2.1.le
      by_cases hlj : j < s.size
      · have hdc : decide (s.size ≤ j) = false := by simpa using hlj
        have HCO : Hid (dr s j = s[j] :: dr s (j + 1)) := dr_cons s j hlj
        obtain ⟨q, hq⟩ : ∃ q : Nat, q = j + 1 := ⟨_, rfl⟩
        have hqi : (j : Int) + 1 = (q : Int) := by omega
        have HQ : Hid (q = j + 1) := hq
        have hqs : q ≤ s.size := by omega
        rw [← hq] at HCO
        clear hq
        by_cases h34 : (s[j].toNat : Int) = 34
        · have HE : Hid (rStr (dr s k) = .ok acc (dr s q)) := by
            show rStr (dr s k) = .ok acc (dr s q)
            rw [I.out.2.2, HCO.out]; exact chars_q _ _ _ (by omega)
          have b34 : ((s[j].toNat : Int) == 34) = true := by simpa using h34
          go_upto_region 9 with fail
          have I2 : Hid (StR w (wr.setCell ⟨w.heap.size, 1, none⟩ (.int .i64 (q : Int))) s q (.slice a m c) acc) := I.out.2.1.set1 q
          generalize wr.setCell ⟨w.heap.size, 1, none⟩ (.int .i64 (q : Int)) = V at I2 ⊢
          have HM : Hid (m = acc.length) := I.out.1
          clear c0 c1 c2 cf cl d0 d1 d2 df dl I
          obtain ⟨c0, c1, c2, cf, cl, d0, d1, d2, df, dl⟩ := I2.out.sp.cells
          have hcv0 : ∀ W, W.ownsRow (w.heap.size + 2) 5 1 (.slice a m c) acc.length (acc.map cellB) → (convert 225 9 (.slice a m c)).run Tryz.prog W = .ok (.string (ba acc)) W := fun W h => conv_ownR h
          have hrw : V.drew.ownsRow (w.heap.size + 2) 5 1 (.slice a m c) acc.length (acc.map cellB) := I2.out.row.drew
          have hcA := hcv0 _ hrw
          have hcB := hcv0 _ (World.ownsRow.drew (ownsRow_setCell_other (ownsRow_setCell_other (ownsRow_setCell_other I2.out.row (a := ⟨w.heap.size + 1, 0, none⟩) I2.out.far1 (.string s)) (a := ⟨w.heap.size + 1, 1, none⟩) I2.out.far1 (.int .i64 (q : Int))) (a := ⟨w.heap.size + 1, 2, none⟩) I2.out.far1 (.bool false)))
          have HB : Hid _ := I2.out.sp.done (.string s) (.int .i64 (q : Int)) (.bool false)
          obtain ⟨t, ht⟩ : ∃ t, t = ba acc := ⟨_, rfl⟩
          have HT : Hid (t = ba acc) := ht
          rw [← ht] at hcA hcB
          clear ht hcv0 hrw
          go_region
          all_goals
            go_wp2_with fail
            refine bodyPost_ret (v := .tuple #[.agg #[.string s, .int .i64 (q : Int), .bool false], .string t]) (by simp [results, Tryz.results95, go_sem, *]) rfl ⟨?_, ?_⟩
            · rw [HE.out, HT.out]
              show Ending.returned _ = Ending.returned (.tuple #[.agg #[.string s, .int .i64 (pos s (dr s q) : Int), .bool false], .string (ba acc)])
              rw [pos_dr hqs]
            · exact HB.out.trans ⟨rfl, rfl, rfl, Nat.le_refl _, fun _ _ => rfl⟩
        · have b34 : ((s[j].toNat : Int) == 34) = false := by simpa using h34
          by_cases h92 : (s[j].toNat : Int) = 92
          · have b92 : ((s[j].toNat : Int) == 92) = true := by simpa using h92
            go_upto_region 12 with fail
            have I2 : Hid (StR w (wr.setCell ⟨w.heap.size, 1, none⟩ (.int .i64 (q : Int))) s q (.slice a m c) acc) := I.out.2.1.set1 q
            have hle2 : w.heap.size + 2 ≤ (wr.setCell ⟨w.heap.size, 1, none⟩ (.int .i64 (q : Int))).heap.size := I2.out.le
            generalize wr.setCell ⟨w.heap.size, 1, none⟩ (.int .i64 (q : Int)) = V at I2 hle2 ⊢
            have HR0 : Hid (m = acc.length ∧ rStr (dr s k) = rChars acc (s[j] :: dr s q)) := ⟨I.out.1, by rw [I.out.2.2, HCO.out]⟩
            clear c0 c1 c2 cf cl d0 d1 d2 df dl I hle
            obtain ⟨c0, c1, c2, cf, cl, d0, d1, d2, df, dl⟩ := I2.out.sp.cells
            by_cases hlq : q < s.size
            · have hdq : decide (s.size ≤ q) = false := by simpa using hlq
              cases hsg : isSign s[q] with
              | false =>
                have HE : Hid (rStr (dr s k) = .fail false (dr s q)) := by
                  show rStr (dr s k) = .fail false (dr s q)
                  rw [HR0.out.2, dr_cons s q hlq]; exact chars_esc_bad _ _ _ _ (by omega) hsg
                have hsg2 : ¬ (s[q].toNat : Int) = 34 ∧ ¬ (s[q].toNat : Int) = 92 := by
                  unfold isSign at hsg; simp at hsg; omega
                obtain ⟨g1, g2⟩ := hsg2
                have g3 : ((s[q].toNat : Int) == 34) = false := by simpa using g1
                have g4 : ((s[q].toNat : Int) == 92) = false := by simpa using g2
                have g5 : ((s[q].toNat : Int) != 34) = true := by simpa using g1
                have g6 : ((s[q].toNat : Int) != 92) = true := by simpa using g2
                clear hsg
                go_wp2_with fail
                refine Calls.mono (rbad_f s q q _) ?_
                rintro e W3 ⟨rfl, b3⟩
                have S3 : Hid (Sp w W3 s q false) := I2.out.sp.below b3
                clear c0 c1 c2 cf cl d0 d1 d2 df dl b3 I2
                obtain ⟨c0, c1, c2, cf, cl, d0, d1, d2, df, dl⟩ := S3.out.cells
                have HB : Hid _ := S3.out.done (.string s) (.int .i64 (q : Int)) (.bool true)
                go_wp2
                refine bodyPost_ret (v := .tuple #[.agg #[.string s, .int .i64 (q : Int), .bool true], .string ⟨#[]⟩]) (by simp [results, Tryz.results95, go_sem, *]) rfl ⟨?_, HB.out⟩
                rw [HE.out]
                show Ending.returned _ = Ending.returned (.tuple #[.agg #[.string s, .int .i64 (pos s (dr s q) : Int), .bool true], .string ⟨#[]⟩])
                rw [pos_dr hqs]
              | true =>
                have HE : Hid (rStr (dr s k) = rChars (acc ++ [s[q]]) (dr s (q + 1))) := by
                  show rStr (dr s k) = _
                  rw [HR0.out.2, dr_cons s q hlq]; exact chars_esc _ _ _ _ (by omega) hsg
                have hsg2 : (((s[q].toNat : Int) == 34) = true ∧ ((s[q].toNat : Int) != 34) = false) ∨ (((s[q].toNat : Int) == 34) = false ∧ ((s[q].toNat : Int) != 34) = true ∧ ((s[q].toNat : Int) == 92) = true ∧ ((s[q].toNat : Int) != 92) = false) := by
                  unfold isSign at hsg; simp at hsg ⊢; omega
                have HROW : Hid (V.ownsRow (w.heap.size + 2) 5 1 (.slice a m c) m (acc.map cellB)) := by
                  have := I2.out.row; rw [← HR0.out.1] at this; exact this
                have hwr : ¬ (s[q].toNat : Int) < 32 ∧ ¬ (126 : Int) < (s[q].toNat : Int) := by unfold isSign at hsg; simp at hsg; omega
                obtain ⟨r1, r2⟩ := hwr
                clear hsg
                rcases hsg2 with ⟨g1, g2⟩ | ⟨g1, g2, g3, g4⟩
                all_goals
                  go_wp2_with (at_builtin; refine wpList_own_append _ rfl _ _ 225 225 rfl (w.heap.size + 2) 5 i0 _ 1 Tryz.underlying225 hi hz0 hz1 hz2 rfl _ m (acc.map cellB) rfl (own_carryR HROW.out ((Below.refl _ _).alloc (Nat.le_refl _) _)) _ 1 [cellB s[q]] rfl (src_byR V s[q] _ rfl) ?c3 ?c4 ?c5 ?_)
                  case c3 => unfold maxLen; omega
                  case c4 => omega
                  case c5 => first | omega | (simp; omega)
                  intro v' W2 hap
                  obtain ⟨a', cp', hv⟩ := hap.shape
                  subst hv
                  have S3 : Hid (StR w W2 s q (.slice a' (m + 1) cp') (acc ++ [s[q]])) := I2.out.app (by rw [← HR0.out.1]; exact hap)
                  have S4 : Hid (StR w (W2.setCell ⟨w.heap.size, 1, none⟩ (.int .i64 ((q + 1 : Nat) : Int))) s (q + 1) (.slice a' (m + 1) cp') (acc ++ [s[q]])) := S3.out.set1 (q + 1)
                  clear hap c0 c1 c2 cf cl d0 d1 d2 df dl
                  obtain ⟨c0, c1, c2, cf, cl, d0, d1, d2, df, dl⟩ := S3.out.sp.cells
                  go_wp2
                  go_roundg (s.size - (q + 1))
                  case measure => have := HQ.out; omega
                  case rel => exact ⟨q + 1, acc ++ [s[q]], m + 1, a', cp', rfl, by omega, by omega, rfl, (⟨by rw [HR0.out.1]; simp, by simpa using S4.out, HE.out⟩ : _ ∧ _ ∧ _)⟩
            · obtain rfl : q = s.size := by omega
              have HE : Hid (rStr (dr s k) = .fail false []) := by
                show rStr (dr s k) = .fail false []
                rw [HR0.out.2, dr_end s s.size (Nat.le_refl _)]; exact chars_esc_end _ _ (by omega)
              go_wp2_with fail
              refine Calls.mono (rbad_f s s.size s.size _) ?_
              rintro e W3 ⟨rfl, b3⟩
              have S3 : Hid (Sp w W3 s s.size false) := I2.out.sp.below b3
              clear c0 c1 c2 cf cl d0 d1 d2 df dl b3 I2
              obtain ⟨c0, c1, c2, cf, cl, d0, d1, d2, df, dl⟩ := S3.out.cells
              have HB : Hid _ := S3.out.done (.string s) (.int .i64 (s.size : Int)) (.bool true)
              go_wp2
              refine bodyPost_ret (v := .tuple #[.agg #[.string s, .int .i64 (s.size : Int), .bool true], .string ⟨#[]⟩]) (by simp [results, Tryz.results95, go_sem, *]) rfl ⟨?_, HB.out⟩
              rw [HE.out]
              rfl
          · have b92 : ((s[j].toNat : Int) == 92) = false := by simpa using h92
            by_cases hbad : (s[j].toNat : Int) < 32 ∨ 126 < (s[j].toNat : Int)
            · have HE : Hid (rStr (dr s k) = .fail false (dr s j)) := by
                show rStr (dr s k) = .fail false (dr s j)
                rw [I.out.2.2, dr_cons s j hlj]; exact chars_bad _ _ _ (by omega)
              rcases (show (s[j].toNat : Int) < 32 ∨ (¬ (s[j].toNat : Int) < 32 ∧ 126 < (s[j].toNat : Int)) by omega) with h1 | ⟨h1, h2⟩
              all_goals
                clear hbad
                go_wp2_with fail
                refine Calls.mono (rbad_f s j j _) ?_
                rintro e W3 ⟨rfl, b3⟩
                have S3 : Hid (Sp w W3 s j false) := I.out.2.1.sp.below b3
                clear c0 c1 c2 cf cl d0 d1 d2 df dl b3 I
                obtain ⟨c0, c1, c2, cf, cl, d0, d1, d2, df, dl⟩ := S3.out.cells
                have HB : Hid _ := S3.out.done (.string s) (.int .i64 (j : Int)) (.bool true)
                go_wp2
                refine bodyPost_ret (v := .tuple #[.agg #[.string s, .int .i64 (j : Int), .bool true], .string ⟨#[]⟩]) (by simp [results, Tryz.results95, go_sem, *]) rfl ⟨?_, HB.out⟩
                rw [HE.out]
                show Ending.returned _ = Ending.returned (.tuple #[.agg #[.string s, .int .i64 (pos s (dr s j) : Int), .bool true], .string ⟨#[]⟩])
                rw [pos_dr hj]
            · have r1 : ¬ (s[j].toNat : Int) < 32 := by omega
              have r2 : ¬ (126 : Int) < (s[j].toNat : Int) := by omega
              have HE : Hid (rStr (dr s k) = rChars (acc ++ [s[j]]) (dr s q)) := by
                show rStr (dr s k) = _
                rw [I.out.2.2, HCO.out]; exact chars_go _ _ _ (by omega) (by omega) (by omega)
              have HROW : Hid (wr.ownsRow (w.heap.size + 2) 5 1 (.slice a m c) m (acc.map cellB)) := by
                have := I.out.2.1.row; rw [← I.out.1] at this; exact this
              clear hbad
              go_wp2_with (at_builtin; refine wpList_own_append _ rfl _ _ 225 225 rfl (w.heap.size + 2) 5 i0 _ 1 Tryz.underlying225 hi hz0 hz1 hz2 rfl _ m (acc.map cellB) rfl (own_carryR HROW.out ((Below.refl _ _).alloc (Nat.le_refl _) _)) _ 1 [cellB s[j]] rfl (src_byR wr s[j] _ rfl) ?c3 ?c4 ?c5 ?_)
              case c3 => unfold maxLen; omega
              case c4 => omega
              case c5 => first | omega | (simp; omega)
              intro v' W2 hap
              obtain ⟨a', cp', hv⟩ := hap.shape
              subst hv
              have S3 : Hid (StR w W2 s j (.slice a' (m + 1) cp') (acc ++ [s[j]])) := I.out.2.1.app (by rw [← I.out.1]; exact hap)
              have S4 : Hid (StR w (W2.setCell ⟨w.heap.size, 1, none⟩ (.int .i64 (q : Int))) s q (.slice a' (m + 1) cp') (acc ++ [s[j]])) := S3.out.set1 q
              have HMI : Hid (m = acc.length) := I.out.1
              clear hap c0 c1 c2 cf cl d0 d1 d2 df dl I
              obtain ⟨c0, c1, c2, cf, cl, d0, d1, d2, df, dl⟩ := S3.out.sp.cells
              go_wp2
              go_roundg (s.size - q)
              case measure => have := HQ.out; omega
              case rel => exact ⟨q, acc ++ [s[j]], m + 1, a', cp', rfl, hqs, by have := HQ.out; omega, rfl, (⟨by rw [HMI.out]; simp, S4.out, HE.out⟩ : _ ∧ _ ∧ _)⟩
      · obtain rfl : j = s.size := by omega
        have HE : Hid (rStr (dr s k) = .fail true []) := by
          show rStr (dr s k) = .fail true []
          rw [I.out.2.2, dr_end s s.size (Nat.le_refl _)]; rfl
        go_wp2_with fail
        refine Calls.mono (rbad_f s s.size s.size _) ?_
        rintro e W3 ⟨rfl, b3⟩
        have S3 : Hid (Sp w W3 s s.size false) := I.out.2.1.sp.below b3
        clear c0 c1 c2 cf cl d0 d1 d2 df dl b3 I
        obtain ⟨c0, c1, c2, cf, cl, d0, d1, d2, df, dl⟩ := S3.out.cells
        have HB : Hid _ := S3.out.done (.string s) (.int .i64 (s.size : Int)) (.bool true)
        go_wp2
        refine bodyPost_ret (v := .tuple #[.agg #[.string s, .int .i64 (s.size : Int), .bool true], .string ⟨#[]⟩]) (by simp [results, Tryz.results95, go_sem, *]) rfl ⟨?_, HB.out⟩
        rw [HE.out]
        rfl
end Go.Proofs.YtpepbhmdfjpblaaGreatDoor

/- The document's reader (wigwagref06): pred. -/
namespace Go.Proofs.YtpepbhmdfjpblaaGreatDoor
open Go.ChangeShapes Go.WideShapes Go.ChangeAt Go.RowKit
set_option linter.unusedVariables false

theorem ba_self6 (s : ByteArray) : ba s.data.toList = s := by cases s; simp [ba]
/-- What the calls answer at a place, good or bad. -/
def wAft (s : ByteArray) (k : Nat) (b : Bool) : Nat × Bool × ByteArray := if b then (k, true, ⟨#[]⟩) else (pos s (rWord (dr s k)).left, (rWord (dr s k)).isBad, wdV (rWord (dr s k)))
def mAft (s m : ByteArray) (k : Nat) (b : Bool) : Nat × Bool := if b then (k, true) else (pos s (rMark m.data.toList (dr s k)).left, (rMark m.data.toList (dr s k)).isBad)
def sAft (s : ByteArray) (k : Nat) (b : Bool) : Nat × Bool × ByteArray := if b then (k, true, ⟨#[]⟩) else (pos s (rStr (dr s k)).left, (rStr (dr s k)).isBad, wdV (rStr (dr s k)))
def nAft (s : ByteArray) (k : Nat) (b : Bool) : Nat × Bool × Int := if b then (k, true, 0) else (pos s (rNumber (dr s k)).left, (rNumber (dr s k)).isBad, nmV (rNumber (dr s k)))
theorem wAft_le {s : ByteArray} {k : Nat} {b : Bool} (h : k ≤ s.size) : (wAft s k b).1 ≤ s.size := by unfold wAft; cases b <;> simp [pos_le, h]
theorem mAft_le {s m : ByteArray} {k : Nat} {b : Bool} (h : k ≤ s.size) : (mAft s m k b).1 ≤ s.size := by unfold mAft; cases b <;> simp [pos_le, h]
theorem sAft_le {s : ByteArray} {k : Nat} {b : Bool} (h : k ≤ s.size) : (sAft s k b).1 ≤ s.size := by unfold sAft; cases b <;> simp [pos_le, h]
theorem nAft_le {s : ByteArray} {k : Nat} {b : Bool} (h : k ≤ s.size) : (nAft s k b).1 ≤ s.size := by unfold nAft; cases b <;> simp [pos_le, h]
theorem rword_any (s : ByteArray) (k : Nat) (b : Bool) (w : World) (hk : k ≤ s.size) (hs : s.size ≤ 1000) : Calls Tryz.prog 74 #[.agg #[.string s, .int .i64 (k : Int), .bool b]] w fun e w' => e = .returned (.tuple #[.agg #[.string s, .int .i64 ((wAft s k b).1 : Int), .bool (wAft s k b).2.1], .string (wAft s k b).2.2]) ∧ Below w.heap.size w w' := by
  cases b
  · exact rword_f s k w hk hs
  · exact rword_t s k w
theorem rmark_any (s m : ByteArray) (k : Nat) (b : Bool) (w : World) (hk : k ≤ s.size) (hs : s.size ≤ 1000) (hm1 : 1 ≤ m.size) (hm2 : m.size ≤ 10) : Calls Tryz.prog 96 #[.agg #[.string s, .int .i64 (k : Int), .bool b], .string m] w fun e w' => e = .returned (.agg #[.string s, .int .i64 ((mAft s m k b).1 : Int), .bool (mAft s m k b).2]) ∧ Below w.heap.size w w' := by
  cases b
  · exact rmark_f s m k w hk hs hm1 hm2
  · exact rmark_t s m k w
theorem rstr_any (s : ByteArray) (k : Nat) (b : Bool) (w : World) (hk : k ≤ s.size) (hs : s.size ≤ 1000) : Calls Tryz.prog 95 #[.agg #[.string s, .int .i64 (k : Int), .bool b]] w fun e w' => e = .returned (.tuple #[.agg #[.string s, .int .i64 ((sAft s k b).1 : Int), .bool (sAft s k b).2.1], .string (sAft s k b).2.2]) ∧ Below w.heap.size w w' := by
  cases b
  · exact rstr_f s k w hk hs
  · exact rstr_t s k w
theorem rnumber_any (s : ByteArray) (k : Nat) (b : Bool) (w : World) (hk : k ≤ s.size) (hs : s.size ≤ 1000) : Calls Tryz.prog 98 #[.agg #[.string s, .int .i64 (k : Int), .bool b]] w fun e w' => e = .returned (.tuple #[.agg #[.string s, .int .i64 ((nAft s k b).1 : Int), .bool (nAft s k b).2.1], .int .i64 (nAft s k b).2.2]) ∧ Below w.heap.size w w' := by
  cases b
  · exact rnumber_f s k w hk hs
  · exact rnumber_t s k w
/-- What pred answers. -/
def PrAns (e : Ending) (s : ByteArray) (r : Ps Pl) : Prop := ∃ q : Pl, e = .returned (.tuple #[.agg #[.string s, .int .i64 (pos s r.left : Int), .bool r.isBad], .agg #[.string (ba q.name), .int .i64 q.op, .int .i64 q.lo, .int .i64 q.hi, .string (ba q.str)]]) ∧ ∀ q' l, r = .ok q' l → q' = q
theorem rnum_suf (l : List UInt8) : (rNumber l).left <:+ l := by
  have h := List.dropWhile_suffix (p := isBlank) (l := l)
  cases hl : l.dropWhile isBlank with
  | nil => rw [rnum_end hl]; exact List.nil_suffix
  | cons c r =>
    rw [hl] at h
    by_cases hb : nBad (c :: r)
    · rw [rnum_no hl hb]; exact h
    · rw [rnum_ok hl hb]
      show nRest (c :: r) <:+ l
      exact ((List.dropWhile_suffix _).trans (List.drop_suffix _ _)).trans h
theorem ms_is (s m : ByteArray) (k : Nat) : sAft s (mAft s m k false).1 (mAft s m k false).2 = (pos s (rMarkStr m.data.toList (dr s k)).left, (rMarkStr m.data.toList (dr s k)).isBad, wdV (rMarkStr m.data.toList (dr s k))) := by
  have hs := rMark_suf m.data.toList (dr s k)
  unfold mAft
  simp only [Bool.false_eq_true, if_false]
  unfold rMarkStr
  cases hr : rMark m.data.toList (dr s k) with
  | fail e r => simp [sAft, Ps.isBad, Ps.left, wdV]
  | ok u r =>
    rw [hr] at hs
    have hd : dr s (pos s r) = r := dr_posd hs
    simp [sAft, Ps.isBad, Ps.left, hd]
theorem nums_is (s : ByteArray) (k : Nat) (hgo : (wAft s k false).2.1 = true ∨ (wAft s k false).2.2 = ⟨#[105, 110]⟩) :
    (nAft s (mAft s ⟨#[46, 46]⟩ (nAft s (wAft s k false).1 (wAft s k false).2.1).1 (nAft s (wAft s k false).1 (wAft s k false).2.1).2.1).1 (mAft s ⟨#[46, 46]⟩ (nAft s (wAft s k false).1 (wAft s k false).2.1).1 (nAft s (wAft s k false).1 (wAft s k false).2.1).2.1).2).1 = pos s (rNums (dr s k)).left ∧
    (nAft s (mAft s ⟨#[46, 46]⟩ (nAft s (wAft s k false).1 (wAft s k false).2.1).1 (nAft s (wAft s k false).1 (wAft s k false).2.1).2.1).1 (mAft s ⟨#[46, 46]⟩ (nAft s (wAft s k false).1 (wAft s k false).2.1).1 (nAft s (wAft s k false).1 (wAft s k false).2.1).2.1).2).2.1 = (rNums (dr s k)).isBad ∧
    ∀ v l, rNums (dr s k) = .ok v l → v = ((nAft s (wAft s k false).1 (wAft s k false).2.1).2.2, (nAft s (mAft s ⟨#[46, 46]⟩ (nAft s (wAft s k false).1 (wAft s k false).2.1).1 (nAft s (wAft s k false).1 (wAft s k false).2.1).2.1).1 (mAft s ⟨#[46, 46]⟩ (nAft s (wAft s k false).1 (wAft s k false).2.1).1 (nAft s (wAft s k false).1 (wAft s k false).2.1).2.1).2).2.2) := by
  have em : (⟨#[46, 46]⟩ : ByteArray).data.toList = [46, 46] := rfl
  have hws := rWord_suf (dr s k)
  unfold rNums rThis
  unfold wAft at hgo ⊢
  simp only [Bool.false_eq_true, if_false] at hgo ⊢
  cases hw : rWord (dr s k) with
  | fail e r => simp [nAft, mAft, Ps.isBad, Ps.left]
  | ok v r =>
    rw [hw] at hgo hws
    have hv : v = [105, 110] := by
      rcases hgo with h | h
      · simp [Ps.isBad] at h
      · have := congrArg (fun x : ByteArray => x.data.toList) h
        simpa [wdV, ba_list] using this
    subst hv
    have hd : dr s (pos s r) = r := dr_posd hws
    simp only [Ps.isBad, Ps.left, if_true]
    have hns := rnum_suf r
    unfold nAft
    simp only [Bool.false_eq_true, if_false, hd]
    cases hn : rNumber r with
    | fail e r1 => simp [mAft, Ps.isBad, Ps.left]
    | ok lo r1 =>
      rw [hn] at hns
      have hd1 : dr s (pos s r1) = r1 := dr_posd (hns.trans hws)
      have hms := rMark_suf [46, 46] r1
      unfold mAft
      simp only [Ps.isBad, Ps.left, Bool.false_eq_true, if_false, hd1, nmV]
      cases hm : rMark [46, 46] r1 with
      | fail e r2 => simp
      | ok u r2 =>
        rw [hm] at hms
        have hd2 : dr s (pos s r2) = r2 := dr_posd (hms.trans (hns.trans hws))
        simp only [Bool.false_eq_true, if_false, hd2]
        cases hn2 : rNumber r2 with
        | fail e r3 => simp
        | ok hi r3 => simp
/-- The blocks of a call of pred's: the place, the two answers, the predicate so far. -/
structure Pq (w W : World) (s : ByteArray) (k : Nat) (b : Bool) (X : Nat) (x : Array Value) : Prop where
  sp : Sp w W s k b
  o2 : W.heap[w.heap.size + 1 + 1]? = some (.cells #[.string ⟨#[]⟩, .int .i64 0, .int .i64 0, .int .i64 0, .string ⟨#[]⟩] 156 (0, 0))
  xb : W.heap[X]? = some (.cells x 156 (0, 0))
  xl : w.heap.size + 3 ≤ X
theorem Pq.below {w W W' : World} {s : ByteArray} {k : Nat} {b : Bool} {X : Nat} {x : Array Value} (h : Pq w W s k b X x) (hb : Below W.heap.size W W') : Pq w W' s k b X x :=
  ⟨h.sp.below hb, (hb.block _ (lt_of_block h.o2)).trans h.o2, (hb.block _ (lt_of_block h.xb)).trans h.xb, h.xl⟩
theorem Pq.setx {w W : World} {s : ByteArray} {k : Nat} {b : Bool} {X : Nat} {x y : Array Value} (h : Pq w W s k b X x) (i : Nat) (v : Value) (hy : x.setIfInBounds i v = y) : Pq w (W.setCell ⟨X, i, none⟩ v) s k b X y := by
  have hx := h.xl
  refine ⟨⟨(Below.heap_setCell _ _ _ _ (by simp; omega)).trans h.sp.box, (Below.heap_setCell _ _ _ _ (by simp; omega)).trans h.sp.out, h.sp.bel.setCell (by simp; omega) _⟩, (Below.heap_setCell _ _ _ _ (by simp; omega)).trans h.o2, box_setG h.xb hy, h.xl⟩
theorem Pq.init (w : World) (s : ByteArray) (k : Nat) (b : Bool) : Sp w (((w.alloc (.cells #[.string s, .int .i64 (k : Int), .bool b] 176)).alloc (.cells #[.string ⟨#[]⟩, .int .i64 0, .bool false] 176)).alloc (.cells #[.string ⟨#[]⟩, .int .i64 0, .int .i64 0, .int .i64 0, .string ⟨#[]⟩] 156)) s k b ∧
    (((w.alloc (.cells #[.string s, .int .i64 (k : Int), .bool b] 176)).alloc (.cells #[.string ⟨#[]⟩, .int .i64 0, .bool false] 176)).alloc (.cells #[.string ⟨#[]⟩, .int .i64 0, .int .i64 0, .int .i64 0, .string ⟨#[]⟩] 156)).heap[w.heap.size + 1 + 1]? = some (.cells #[.string ⟨#[]⟩, .int .i64 0, .int .i64 0, .int .i64 0, .string ⟨#[]⟩] 156 (0, 0)) :=
  ⟨(Sp.init w s k b).below ((Below.refl _ _).alloc (Nat.le_refl _) _), by
    have := heap_alloc_new ((w.alloc (.cells #[.string s, .int .i64 (k : Int), .bool b] 176)).alloc (.cells #[.string ⟨#[]⟩, .int .i64 0, .bool false] 176)) (.cells #[.string ⟨#[]⟩, .int .i64 0, .int .i64 0, .int .i64 0, .string ⟨#[]⟩] 156)
    simpa using this⟩
theorem fiveP {w : World} {b : Nat} {a0 a1 a2 a3 a4 : Value} {t : TypeId} (h : w.heap[b]? = some (.cells #[a0, a1, a2, a3, a4] t (0, 0))) :
    w.cell? ⟨b, 0, none⟩ = some a0 ∧ w.cell? ⟨b, 1, none⟩ = some a1 ∧ w.cell? ⟨b, 2, none⟩ = some a2 ∧ w.cell? ⟨b, 3, none⟩ = some a3 ∧ w.cell? ⟨b, 4, none⟩ = some a4 ∧ (∀ o, w.frozen? ⟨b, o, none⟩ = false) ∧ b < w.heap.size := by
  refine ⟨?_, ?_, ?_, ?_, ?_, ?_, lt_of_block h⟩ <;> simp [World.cell?, World.frozen?, h]
theorem threeP {w : World} {b : Nat} {a0 a1 a2 : Value} {t : TypeId} (h : w.heap[b]? = some (.cells #[a0, a1, a2] t (0, 0))) :
    w.cell? ⟨b, 0, none⟩ = some a0 ∧ w.cell? ⟨b, 1, none⟩ = some a1 ∧ w.cell? ⟨b, 2, none⟩ = some a2 ∧ (∀ o, w.frozen? ⟨b, o, none⟩ = false) ∧ b < w.heap.size := by
  refine ⟨?_, ?_, ?_, ?_, lt_of_block h⟩ <;> simp [World.cell?, World.frozen?, h]
end Go.Proofs.YtpepbhmdfjpblaaGreatDoor

/- The document's reader (wigwagref06): pred, walked. -/
namespace Go.Proofs.YtpepbhmdfjpblaaGreatDoor
open Go.ChangeShapes Go.WideShapes Go.ChangeAt Go.RowKit
set_option linter.unusedVariables false

theorem PrAns.mk {s : ByteArray} {r : Ps Pl} {K : Nat} {B : Bool} (nm st : ByteArray) (op lo hi : Int) (hK : K = pos s r.left) (hB : B = r.isBad) (hq : ∀ q' l, r = .ok q' l → q' = ⟨nm.data.toList, op, lo, hi, st.data.toList⟩) : PrAns (.returned (.tuple #[.agg #[.string s, .int .i64 (K : Int), .bool B], .agg #[.string nm, .int .i64 op, .int .i64 lo, .int .i64 hi, .string st]])) s r := by
  refine ⟨⟨nm.data.toList, op, lo, hi, st.data.toList⟩, ?_, hq⟩
  rw [hK, hB]
  simp only [ba_self6]
theorem below_drewP {B : Nat} {a w : World} (h : Below B a w) : Below B a w.drew := h.trans ⟨rfl, rfl, rfl, Nat.le_refl _, fun _ _ => rfl⟩
/-- The blocks where the predicate is made. -/
theorem Pq.at4 {w W : World} {s : ByteArray} {k0 : Nat} {b0 : Bool} (h : Sp w W s k0 b0) (ho : W.heap[w.heap.size + 1 + 1]? = some (.cells #[.string ⟨#[]⟩, .int .i64 0, .int .i64 0, .int .i64 0, .string ⟨#[]⟩] 156 (0, 0))) (k : Nat) (b : Bool) (x : Array Value) :
    Pq w ((((W.setCell ⟨w.heap.size, 0, none⟩ (.string s)).setCell ⟨w.heap.size, 1, none⟩ (.int .i64 (k : Int))).setCell ⟨w.heap.size, 2, none⟩ (.bool b)).alloc (.cells x 156)) s k b W.heap.size x := by
  have hlt := lt_of_block ho
  have o3 : (((W.setCell ⟨w.heap.size, 0, none⟩ (.string s)).setCell ⟨w.heap.size, 1, none⟩ (.int .i64 (k : Int))).setCell ⟨w.heap.size, 2, none⟩ (.bool b)).heap[w.heap.size + 1 + 1]? = some (.cells #[.string ⟨#[]⟩, .int .i64 0, .int .i64 0, .int .i64 0, .string ⟨#[]⟩] 156 (0, 0)) :=
    (Below.heap_setCell _ _ _ _ (by simp; omega)).trans ((Below.heap_setCell _ _ _ _ (by simp; omega)).trans ((Below.heap_setCell _ _ _ _ (by simp; omega)).trans ho))
  have hz : (((W.setCell ⟨w.heap.size, 0, none⟩ (.string s)).setCell ⟨w.heap.size, 1, none⟩ (.int .i64 (k : Int))).setCell ⟨w.heap.size, 2, none⟩ (.bool b)).heap.size = W.heap.size := by simp [World.setCell]
  refine ⟨(h.set3 k b).below ((Below.refl _ _).alloc (Nat.le_refl _) _), (Below.heap_alloc _ _ _ (lt_of_block o3)).trans o3, ?_, by omega⟩
  have := heap_alloc_new (((W.setCell ⟨w.heap.size, 0, none⟩ (.string s)).setCell ⟨w.heap.size, 1, none⟩ (.int .i64 (k : Int))).setCell ⟨w.heap.size, 2, none⟩ (.bool b)) (.cells x 156)
  rw [hz] at this
  exact this
theorem out2_carry {w W W' : World} {s : ByteArray} {n : Nat} {b : Bool} (ho : W.heap[w.heap.size + 1 + 1]? = some (.cells #[.string ⟨#[]⟩, .int .i64 0, .int .i64 0, .int .i64 0, .string ⟨#[]⟩] 156 (0, 0)))
    (hb : Below (((W.setCell ⟨w.heap.size, 0, none⟩ (.string s)).setCell ⟨w.heap.size, 1, none⟩ (.int .i64 (n : Int))).setCell ⟨w.heap.size, 2, none⟩ (.bool b)).heap.size (((W.setCell ⟨w.heap.size, 0, none⟩ (.string s)).setCell ⟨w.heap.size, 1, none⟩ (.int .i64 (n : Int))).setCell ⟨w.heap.size, 2, none⟩ (.bool b)) W') :
    W'.heap[w.heap.size + 1 + 1]? = some (.cells #[.string ⟨#[]⟩, .int .i64 0, .int .i64 0, .int .i64 0, .string ⟨#[]⟩] 156 (0, 0)) := by
  have h1 : (((W.setCell ⟨w.heap.size, 0, none⟩ (.string s)).setCell ⟨w.heap.size, 1, none⟩ (.int .i64 (n : Int))).setCell ⟨w.heap.size, 2, none⟩ (.bool b)).heap[w.heap.size + 1 + 1]? = some (.cells #[.string ⟨#[]⟩, .int .i64 0, .int .i64 0, .int .i64 0, .string ⟨#[]⟩] 156 (0, 0)) :=
    (Below.heap_setCell _ _ _ _ (by simp; omega)).trans ((Below.heap_setCell _ _ _ _ (by simp; omega)).trans ((Below.heap_setCell _ _ _ _ (by simp; omega)).trans ho))
  exact (hb.block _ (lt_of_block h1)).trans h1
theorem dw_dw (l : List UInt8) : (l.dropWhile isBlank).dropWhile isBlank = l.dropWhile isBlank := by
  induction l with
  | nil => rfl
  | cons c l ih =>
    by_cases h : isBlank c = true
    · rw [List.dropWhile_cons_of_pos h]; exact ih
    · rw [List.dropWhile_cons_of_neg h, List.dropWhile_cons_of_neg h]
theorem word_app {l v r : List UInt8} (h : rWord l = .ok v r) : l.dropWhile isBlank = v ++ r := by
  unfold rWord at h
  split at h
  · cases h
  · rename_i c q e
    split at h
    · cases h
      rw [List.takeWhile_append_dropWhile]; exact e
    · cases h

set_option maxRecDepth 100000 in
set_option maxHeartbeats 8000000 in
theorem rpred_a (s : ByteArray) (k : Nat) (w : World) (hk : k ≤ s.size) (hs : s.size ≤ 1000) (ee : Bool) (r : List UInt8) (hres : rWord (dr s k) = .fail ee r) : Calls Tryz.prog 72 #[.agg #[.string s, .int .i64 (k : Int), .bool false]] w fun e w' => PrAns e s (rPred (dr s k)) ∧ Below w.heap.size w w' := by
  have HS : Hid _ := Pq.init w s k false
  have HWD : Hid _ := fun W => rword_any s k false W hk hs
  obtain ⟨n, hn⟩ : ∃ n, n = pos s r := ⟨_, rfl⟩
  have HANS : Hid (PrAns (.returned (.tuple #[.agg #[.string s, .int .i64 (n : Int), .bool true], .agg #[.string ⟨#[]⟩, .int .i64 0, .int .i64 0, .int .i64 0, .string ⟨#[]⟩]])) s (rPred (dr s k))) := by
    have e : rPred (dr s k) = .fail ee r := by unfold rPred; rw [hres]
    rw [Hid, e]
    exact PrAns.mk _ _ _ _ _ hn rfl (fun _ _ h => by cases h)
  have e1 : wAft s k false = (n, true, ⟨#[]⟩) := by unfold wAft; simp [hres, hn, Ps.isBad, Ps.left, wdV]
  rw [e1] at HWD
  clear hn e1 hres
  go_enter Tryz.func72, Tryz.ntmps72
  go_wp2_with fail
  refine Calls.mono (HWD.out _) ?_
  rintro e W1 ⟨rfl, b1⟩
  have S1 : Hid (Sp w W1 s k false) := HS.out.1.below b1
  have O1 : Hid _ := (b1.block _ (lt_of_block HS.out.2)).trans HS.out.2
  obtain ⟨c0, c1, c2, cf, cl, d0, d1, d2, df, dl⟩ := S1.out.cells
  clear b1 HS HWD
  go_wp2_with fail
  refine Calls.mono (rblanks_t s n _) ?_
  rintro e W2 ⟨rfl, b2⟩
  have S2 : Hid (Sp w W2 s n true) := (S1.out.set3 n true).below b2
  have O2 : Hid _ := out2_carry O1.out b2
  clear c0 c1 c2 cf cl d0 d1 d2 df dl b2 S1 O1
  obtain ⟨c0, c1, c2, cf, cl, d0, d1, d2, df, dl⟩ := S2.out.cells
  go_upto_region 4 with fail
  obtain ⟨V, hV⟩ : ∃ V, V = ((((W2.setCell ⟨w.heap.size, 0, none⟩ (.string s)).setCell ⟨w.heap.size, 1, none⟩ (.int .i64 (n : Int))).setCell ⟨w.heap.size, 2, none⟩ (.bool true)).alloc (.cells #[.string ⟨#[]⟩, .int .i64 0, .int .i64 0, .int .i64 0, .string ⟨#[]⟩] 156)) := ⟨_, rfl⟩
  rw [← hV]
  have PV : Hid (Pq w V s n true W2.heap.size #[.string ⟨#[]⟩, .int .i64 0, .int .i64 0, .int .i64 0, .string ⟨#[]⟩]) := by rw [Hid, hV]; exact Pq.at4 S2.out O2.out n true _
  clear hV S2 O2 c0 c1 c2 cf cl d0 d1 d2 df dl
  generalize W2.heap.size = X at PV ⊢
  have c2' := PV.out.sp.cells.2.2.1
  go_wp2_with fail
  clear c2'
  obtain ⟨c0, c1, c2, cf, cl, d0, d1, d2, df, dl⟩ := PV.out.sp.cells
  obtain ⟨x0, x1, x2, x3, x4, xf, xl⟩ := fiveP PV.out.xb
  obtain ⟨y0, y1, y2, y3, y4, yf, yl⟩ := fiveP PV.out.o2
  have xn := PV.out.xl
  have n1 : ¬ X = w.heap.size := by omega
  have n2' : ¬ X = w.heap.size + 1 := by omega
  have n3 : ¬ X = w.heap.size + 1 + 1 := by omega
  have n4 : ¬ w.heap.size = X := by omega
  have n5 : ¬ w.heap.size + 1 = X := by omega
  have n6 : ¬ w.heap.size + 1 + 1 = X := by omega
  have n7 : ¬ w.heap.size + 1 + 1 = w.heap.size := by omega
  have n8 : ¬ w.heap.size = w.heap.size + 1 + 1 := by omega
  clear xn
  have HBL : Hid (Below w.heap.size w V) := PV.out.sp.bel

  go_region
  all_goals
    go_wp2_with fail
    refine bodyPost_ret (v := .tuple #[.agg #[.string s, .int .i64 (n : Int), .bool true], .agg #[.string ⟨#[]⟩, .int .i64 0, .int .i64 0, .int .i64 0, .string ⟨#[]⟩]]) (by simp [results, Tryz.results72, go_sem, *]) rfl ⟨HANS.out, ?_⟩
    refine below_drewP ?_
    repeat (refine Below.setCell ?_ (by simp; try omega) _)
    exact HBL.out

set_option maxRecDepth 100000 in
set_option maxHeartbeats 8000000 in
theorem rpred_b (s : ByteArray) (k : Nat) (w : World) (hk : k ≤ s.size) (hs : s.size ≤ 1000) (nm r : List UInt8) (hres : rWord (dr s k) = .ok nm r) (n2 : Nat) (hn2 : n2 = nb s (pos s r)) (hlt : n2 < s.size) (hc : (s[n2].toNat : Int) = 61) : Calls Tryz.prog 72 #[.agg #[.string s, .int .i64 (k : Int), .bool false]] w fun e w' => PrAns e s (rPred (dr s k)) ∧ Below w.heap.size w w' := by
  have HS : Hid _ := Pq.init w s k false
  have HWD : Hid _ := fun W => rword_any s k false W hk hs
  have hws := rWord_suf (dr s k)
  rw [hres] at hws
  obtain ⟨n1, hn1⟩ : ∃ n1, n1 = pos s r := ⟨_, rfl⟩
  have hd1 : dr s n1 = r := by rw [hn1]; exact dr_posd hws
  have hl1 : n1 ≤ s.size := by rw [hn1]; exact pos_le _ _
  have e1 : wAft s k false = (n1, false, ba nm) := by unfold wAft; simp [hres, hn1, Ps.isBad, Ps.left, wdV]
  rw [e1] at HWD
  have HBK : Hid _ := fun W => rblanks_f s n1 W hl1 hs
  have hn2d := nb_dr s n1
  have hn2l := nb_le s n1
  rw [hd1] at hn2d
  rw [hn1, ← hn2] at hn2d hn2l
  have HBK2 : Hid (∀ W, Calls Tryz.prog 73 #[.agg #[.string s, .int .i64 (n1 : Int), .bool false]] W fun e w' => e = .returned (.agg #[.string s, .int .i64 (n2 : Int), .bool false]) ∧ Below W.heap.size W w') := by rw [Hid, hn2, ← hn1]; exact HBK.out
  clear HBK
  have HBK := HBK2
  clear HBK2
  have HN2 : Hid (dr s n2 = r.dropWhile isBlank) := hn2d
  have HRW : Hid (rWord (dr s k) = .ok nm r) := hres
  obtain ⟨k3, b3, hm3⟩ : ∃ k3 b3, mAft s ⟨#[61]⟩ n2 false = (k3, b3) := ⟨_, _, rfl⟩
  obtain ⟨k4, b4, st, hm4⟩ : ∃ k4 b4 st, sAft s k3 b3 = (k4, b4, st) := ⟨_, _, _, rfl⟩
  have hk3 : k3 ≤ s.size := by have := mAft_le (s := s) (m := ⟨#[61]⟩) (k := n2) (b := false) hn2l; rw [hm3] at this; exact this
  have HMK : Hid _ := fun W => rmark_any s ⟨#[61]⟩ n2 false W hn2l hs (by decide) (by decide)
  have HST : Hid _ := fun W => rstr_any s k3 b3 W hk3 hs
  rw [hm3] at HMK
  rw [hm4] at HST
  have HANS : Hid (PrAns (.returned (.tuple #[.agg #[.string s, .int .i64 (k4 : Int), .bool b4], .agg #[.string (ba nm), .int .i64 2, .int .i64 0, .int .i64 0, .string st]])) s (rPred (dr s k))) := by
    have hms := ms_is s ⟨#[61]⟩ n2
    rw [hm3] at hms
    simp only at hms
    rw [hm4] at hms
    have e : rPred (dr s k) = rAsk nm (dr s n2) := by
      unfold rPred rBegin; rw [hres]; simp only; rw [← HN2.out, dr_cons s n2 hlt]
    rw [Hid, e]
    have e2 : rAsk nm (dr s n2) = match rMarkStr [61] (dr s n2) with
        | .ok st r' => .ok ⟨nm, 2, 0, 0, st⟩ r'
        | .fail e r' => .fail e r' := by
      rw [dr_cons s n2 hlt]; unfold rAsk; simp only; rw [if_pos (by omega)]; rfl
    rw [e2]
    generalize rMarkStr [61] (dr s n2) = rr at hms
    cases rr with
    | fail e l =>
      simp [Ps.isBad, Ps.left, wdV] at hms
      obtain ⟨q1, q2, q3⟩ := hms
      subst q1 q2 q3
      exact PrAns.mk _ _ _ _ _ rfl rfl (fun _ _ h => by cases h)
    | ok v l =>
      simp [Ps.isBad, Ps.left, wdV] at hms
      obtain ⟨q1, q2, q3⟩ := hms
      subst q1 q2 q3
      exact PrAns.mk _ _ _ _ _ rfl rfl (fun q' l' h => by cases h; simp [ba_list])
  clear hm3 hm4
  clear hn1 hd1 e1 hres hws hn2d hn2
  generalize ba nm = NMB at *
  go_enter Tryz.func72, Tryz.ntmps72
  go_wp2_with fail
  refine Calls.mono (HWD.out _) ?_
  rintro e W1 ⟨rfl, b1⟩
  have S1 : Hid (Sp w W1 s k false) := HS.out.1.below b1
  have O1 : Hid _ := (b1.block _ (lt_of_block HS.out.2)).trans HS.out.2
  obtain ⟨c0, c1, c2, cf, cl, d0, d1, d2, df, dl⟩ := S1.out.cells
  clear b1 HS HWD
  go_wp2_with fail
  refine Calls.mono (HBK.out _) ?_
  rintro e W2 ⟨rfl, b2⟩
  have S2 : Hid (Sp w W2 s n1 false) := (S1.out.set3 n1 false).below b2
  have O2 : Hid _ := out2_carry O1.out b2
  clear c0 c1 c2 cf cl d0 d1 d2 df dl b2 S1 O1 HBK
  obtain ⟨c0, c1, c2, cf, cl, d0, d1, d2, df, dl⟩ := S2.out.cells
  go_upto_region 4 with fail
  obtain ⟨V, hV⟩ : ∃ V, V = ((((W2.setCell ⟨w.heap.size, 0, none⟩ (.string s)).setCell ⟨w.heap.size, 1, none⟩ (.int .i64 (n2 : Int))).setCell ⟨w.heap.size, 2, none⟩ (.bool false)).alloc (.cells #[.string NMB, .int .i64 0, .int .i64 0, .int .i64 0, .string ⟨#[]⟩] 156)) := ⟨_, rfl⟩
  rw [← hV]
  have PV : Hid (Pq w V s n2 false W2.heap.size #[.string NMB, .int .i64 0, .int .i64 0, .int .i64 0, .string ⟨#[]⟩]) := by rw [Hid, hV]; exact Pq.at4 S2.out O2.out n2 false _
  clear hV S2 O2 c0 c1 c2 cf cl d0 d1 d2 df dl
  generalize W2.heap.size = X at PV ⊢
  obtain ⟨c0, c1, c2, cf, cl, d0, d1, d2, df, dl⟩ := PV.out.sp.cells
  obtain ⟨x0, x1, x2, x3, x4, xf, xl⟩ := fiveP PV.out.xb
  obtain ⟨y0, y1, y2, y3, y4, yf, yl⟩ := fiveP PV.out.o2
  have g1 : ((s[n2].toNat : Int) == 61) = true := by simpa using hc
  clear hc
  go_wp2_with fail
  refine Calls.mono (HMK.out _) ?_
  rintro e W3 ⟨rfl, b3'⟩
  have PV3 : Hid _ := PV.out.below b3'
  clear b3'
  go_wp2_with fail
  refine Calls.mono (HST.out _) ?_
  rintro e W4 ⟨rfl, b4'⟩
  have PV4 : Hid _ := PV3.out.below b4'
  clear b4' PV PV3 c0 c1 c2 cf cl d0 d1 d2 df dl x0 x1 x2 x3 x4 xf xl y0 y1 y2 y3 y4 yf yl
  obtain ⟨c0, c1, c2, cf, cl, d0, d1, d2, df, dl⟩ := PV4.out.sp.cells
  obtain ⟨x0, x1, x2, x3, x4, xf, xl⟩ := fiveP PV4.out.xb
  obtain ⟨y0, y1, y2, y3, y4, yf, yl⟩ := fiveP PV4.out.o2
  have xn := PV4.out.xl
  go_upto_region 10 with fail
  obtain ⟨U, hU⟩ : ∃ U, U = ((W4.setCell ⟨X, 1, none⟩ (.int .i64 2)).setCell ⟨X, 4, none⟩ (.string st)) := ⟨_, rfl⟩
  have PU : Hid (Pq w U s n2 false X #[.string NMB, .int .i64 2, .int .i64 0, .int .i64 0, .string st]) := by
    rw [Hid, hU]; exact (PV4.out.setx 1 _ rfl).setx 4 _ rfl
  have hUs : U.heap.size = W4.heap.size := by rw [hU]; simp [World.setCell]
  rw [← hU]
  rw [← hUs]
  obtain ⟨V, hV⟩ : ∃ V, V = U.alloc (.cells #[.string s, .int .i64 (k4 : Int), .bool b4] 176) := ⟨_, rfl⟩
  have PV : Hid (Pq w V s n2 false X #[.string NMB, .int .i64 2, .int .i64 0, .int .i64 0, .string st]) := by rw [Hid, hV]; exact PU.out.below ((Below.refl _ _).alloc (Nat.le_refl _) _)
  have QV : Hid (V.heap[U.heap.size]? = some (.cells #[.string s, .int .i64 (k4 : Int), .bool b4] 176 (0, 0))) := by rw [Hid, hV]; exact heap_alloc_new U _
  rw [← hV]
  generalize U.heap.size = Q at QV ⊢
  clear hV hU hUs PU PV4 c0 c1 c2 cf cl d0 d1 d2 df dl x0 x1 x2 x3 x4 xf xl y0 y1 y2 y3 y4 yf yl xn
  obtain ⟨c0, c1, c2, cf, cl, d0, d1, d2, df, dl⟩ := PV.out.sp.cells
  obtain ⟨x0, x1, x2, x3, x4, xf, xl⟩ := fiveP PV.out.xb
  obtain ⟨y0, y1, y2, y3, y4, yf, yl⟩ := fiveP PV.out.o2
  have xn := PV.out.xl
  have n1 : ¬ X = w.heap.size := by omega
  have n2' : ¬ X = w.heap.size + 1 := by omega
  have n3 : ¬ X = w.heap.size + 1 + 1 := by omega
  have n4 : ¬ w.heap.size = X := by omega
  have n5 : ¬ w.heap.size + 1 = X := by omega
  have n6 : ¬ w.heap.size + 1 + 1 = X := by omega
  have n7 : ¬ w.heap.size + 1 + 1 = w.heap.size := by omega
  have n8 : ¬ w.heap.size = w.heap.size + 1 + 1 := by omega
  clear xn
  have HBL : Hid (Below w.heap.size w V) := PV.out.sp.bel
  obtain ⟨q0, q1, q2, qf, ql⟩ := threeP QV.out
  go_region
  all_goals
    go_wp2_with fail
    refine bodyPost_ret (v := .tuple #[.agg #[.string s, .int .i64 (k4 : Int), .bool b4], .agg #[.string NMB, .int .i64 2, .int .i64 0, .int .i64 0, .string st]]) (by simp [results, Tryz.results72, go_sem, *]) rfl ⟨HANS.out, ?_⟩
    refine below_drewP ?_
    repeat (refine Below.setCell ?_ (by simp; try omega) _)
    exact HBL.out

set_option maxRecDepth 100000 in
set_option maxHeartbeats 8000000 in
theorem rpred_c (s : ByteArray) (k : Nat) (w : World) (hk : k ≤ s.size) (hs : s.size ≤ 1000) (nm r : List UInt8) (hres : rWord (dr s k) = .ok nm r) (n2 : Nat) (hn2 : n2 = nb s (pos s r)) (hlt : n2 < s.size) (hc : (s[n2].toNat : Int) = 94) : Calls Tryz.prog 72 #[.agg #[.string s, .int .i64 (k : Int), .bool false]] w fun e w' => PrAns e s (rPred (dr s k)) ∧ Below w.heap.size w w' := by
  have HS : Hid _ := Pq.init w s k false
  have HWD : Hid _ := fun W => rword_any s k false W hk hs
  have hws := rWord_suf (dr s k)
  rw [hres] at hws
  obtain ⟨n1, hn1⟩ : ∃ n1, n1 = pos s r := ⟨_, rfl⟩
  have hd1 : dr s n1 = r := by rw [hn1]; exact dr_posd hws
  have hl1 : n1 ≤ s.size := by rw [hn1]; exact pos_le _ _
  have e1 : wAft s k false = (n1, false, ba nm) := by unfold wAft; simp [hres, hn1, Ps.isBad, Ps.left, wdV]
  rw [e1] at HWD
  have HBK : Hid _ := fun W => rblanks_f s n1 W hl1 hs
  have hn2d := nb_dr s n1
  have hn2l := nb_le s n1
  rw [hd1] at hn2d
  rw [hn1, ← hn2] at hn2d hn2l
  have HBK2 : Hid (∀ W, Calls Tryz.prog 73 #[.agg #[.string s, .int .i64 (n1 : Int), .bool false]] W fun e w' => e = .returned (.agg #[.string s, .int .i64 (n2 : Int), .bool false]) ∧ Below W.heap.size W w') := by rw [Hid, hn2, ← hn1]; exact HBK.out
  clear HBK
  have HBK := HBK2
  clear HBK2
  have HN2 : Hid (dr s n2 = r.dropWhile isBlank) := hn2d
  have HRW : Hid (rWord (dr s k) = .ok nm r) := hres
  obtain ⟨k3, b3, hm3⟩ : ∃ k3 b3, mAft s ⟨#[94, 61]⟩ n2 false = (k3, b3) := ⟨_, _, rfl⟩
  obtain ⟨k4, b4, st, hm4⟩ : ∃ k4 b4 st, sAft s k3 b3 = (k4, b4, st) := ⟨_, _, _, rfl⟩
  have hk3 : k3 ≤ s.size := by have := mAft_le (s := s) (m := ⟨#[94, 61]⟩) (k := n2) (b := false) hn2l; rw [hm3] at this; exact this
  have HMK : Hid _ := fun W => rmark_any s ⟨#[94, 61]⟩ n2 false W hn2l hs (by decide) (by decide)
  have HST : Hid _ := fun W => rstr_any s k3 b3 W hk3 hs
  rw [hm3] at HMK
  rw [hm4] at HST
  have HANS : Hid (PrAns (.returned (.tuple #[.agg #[.string s, .int .i64 (k4 : Int), .bool b4], .agg #[.string (ba nm), .int .i64 3, .int .i64 0, .int .i64 0, .string st]])) s (rPred (dr s k))) := by
    have hms := ms_is s ⟨#[94, 61]⟩ n2
    rw [hm3] at hms
    simp only at hms
    rw [hm4] at hms
    have e : rPred (dr s k) = rAsk nm (dr s n2) := by
      unfold rPred rBegin; rw [hres]; simp only; rw [← HN2.out, dr_cons s n2 hlt]
    rw [Hid, e]
    have e2 : rAsk nm (dr s n2) = match rMarkStr [94, 61] (dr s n2) with
        | .ok st r' => .ok ⟨nm, 3, 0, 0, st⟩ r'
        | .fail e r' => .fail e r' := by
      rw [dr_cons s n2 hlt]; unfold rAsk; simp only; rw [if_neg (by omega), if_pos (by omega)]; rfl
    rw [e2]
    generalize rMarkStr [94, 61] (dr s n2) = rr at hms
    cases rr with
    | fail e l =>
      simp [Ps.isBad, Ps.left, wdV] at hms
      obtain ⟨q1, q2, q3⟩ := hms
      subst q1 q2 q3
      exact PrAns.mk _ _ _ _ _ rfl rfl (fun _ _ h => by cases h)
    | ok v l =>
      simp [Ps.isBad, Ps.left, wdV] at hms
      obtain ⟨q1, q2, q3⟩ := hms
      subst q1 q2 q3
      exact PrAns.mk _ _ _ _ _ rfl rfl (fun q' l' h => by cases h; simp [ba_list])
  clear hm3 hm4
  clear hn1 hd1 e1 hres hws hn2d hn2
  generalize ba nm = NMB at *
  go_enter Tryz.func72, Tryz.ntmps72
  go_wp2_with fail
  refine Calls.mono (HWD.out _) ?_
  rintro e W1 ⟨rfl, b1⟩
  have S1 : Hid (Sp w W1 s k false) := HS.out.1.below b1
  have O1 : Hid _ := (b1.block _ (lt_of_block HS.out.2)).trans HS.out.2
  obtain ⟨c0, c1, c2, cf, cl, d0, d1, d2, df, dl⟩ := S1.out.cells
  clear b1 HS HWD
  go_wp2_with fail
  refine Calls.mono (HBK.out _) ?_
  rintro e W2 ⟨rfl, b2⟩
  have S2 : Hid (Sp w W2 s n1 false) := (S1.out.set3 n1 false).below b2
  have O2 : Hid _ := out2_carry O1.out b2
  clear c0 c1 c2 cf cl d0 d1 d2 df dl b2 S1 O1 HBK
  obtain ⟨c0, c1, c2, cf, cl, d0, d1, d2, df, dl⟩ := S2.out.cells
  go_upto_region 4 with fail
  obtain ⟨V, hV⟩ : ∃ V, V = ((((W2.setCell ⟨w.heap.size, 0, none⟩ (.string s)).setCell ⟨w.heap.size, 1, none⟩ (.int .i64 (n2 : Int))).setCell ⟨w.heap.size, 2, none⟩ (.bool false)).alloc (.cells #[.string NMB, .int .i64 0, .int .i64 0, .int .i64 0, .string ⟨#[]⟩] 156)) := ⟨_, rfl⟩
  rw [← hV]
  have PV : Hid (Pq w V s n2 false W2.heap.size #[.string NMB, .int .i64 0, .int .i64 0, .int .i64 0, .string ⟨#[]⟩]) := by rw [Hid, hV]; exact Pq.at4 S2.out O2.out n2 false _
  clear hV S2 O2 c0 c1 c2 cf cl d0 d1 d2 df dl
  generalize W2.heap.size = X at PV ⊢
  obtain ⟨c0, c1, c2, cf, cl, d0, d1, d2, df, dl⟩ := PV.out.sp.cells
  obtain ⟨x0, x1, x2, x3, x4, xf, xl⟩ := fiveP PV.out.xb
  obtain ⟨y0, y1, y2, y3, y4, yf, yl⟩ := fiveP PV.out.o2
  have g1 : ((s[n2].toNat : Int) == 61) = false := by simp; omega
  have g2 : ((s[n2].toNat : Int) == 94) = true := by simpa using hc
  clear hc
  go_wp2_with fail
  refine Calls.mono (HMK.out _) ?_
  rintro e W3 ⟨rfl, b3'⟩
  have PV3 : Hid _ := PV.out.below b3'
  clear b3'
  go_wp2_with fail
  refine Calls.mono (HST.out _) ?_
  rintro e W4 ⟨rfl, b4'⟩
  have PV4 : Hid _ := PV3.out.below b4'
  clear b4' PV PV3 c0 c1 c2 cf cl d0 d1 d2 df dl x0 x1 x2 x3 x4 xf xl y0 y1 y2 y3 y4 yf yl
  obtain ⟨c0, c1, c2, cf, cl, d0, d1, d2, df, dl⟩ := PV4.out.sp.cells
  obtain ⟨x0, x1, x2, x3, x4, xf, xl⟩ := fiveP PV4.out.xb
  obtain ⟨y0, y1, y2, y3, y4, yf, yl⟩ := fiveP PV4.out.o2
  have xn := PV4.out.xl
  go_upto_region 15 with fail
  obtain ⟨U, hU⟩ : ∃ U, U = ((W4.setCell ⟨X, 1, none⟩ (.int .i64 3)).setCell ⟨X, 4, none⟩ (.string st)) := ⟨_, rfl⟩
  have PU : Hid (Pq w U s n2 false X #[.string NMB, .int .i64 3, .int .i64 0, .int .i64 0, .string st]) := by
    rw [Hid, hU]; exact (PV4.out.setx 1 _ rfl).setx 4 _ rfl
  have hUs : U.heap.size = W4.heap.size := by rw [hU]; simp [World.setCell]
  rw [← hU]
  rw [← hUs]
  obtain ⟨V, hV⟩ : ∃ V, V = U.alloc (.cells #[.string s, .int .i64 (k4 : Int), .bool b4] 176) := ⟨_, rfl⟩
  have PV : Hid (Pq w V s n2 false X #[.string NMB, .int .i64 3, .int .i64 0, .int .i64 0, .string st]) := by rw [Hid, hV]; exact PU.out.below ((Below.refl _ _).alloc (Nat.le_refl _) _)
  have QV : Hid (V.heap[U.heap.size]? = some (.cells #[.string s, .int .i64 (k4 : Int), .bool b4] 176 (0, 0))) := by rw [Hid, hV]; exact heap_alloc_new U _
  rw [← hV]
  generalize U.heap.size = Q at QV ⊢
  clear hV hU hUs PU PV4 c0 c1 c2 cf cl d0 d1 d2 df dl x0 x1 x2 x3 x4 xf xl y0 y1 y2 y3 y4 yf yl xn
  obtain ⟨c0, c1, c2, cf, cl, d0, d1, d2, df, dl⟩ := PV.out.sp.cells
  obtain ⟨x0, x1, x2, x3, x4, xf, xl⟩ := fiveP PV.out.xb
  obtain ⟨y0, y1, y2, y3, y4, yf, yl⟩ := fiveP PV.out.o2
  have xn := PV.out.xl
  have n1 : ¬ X = w.heap.size := by omega
  have n2' : ¬ X = w.heap.size + 1 := by omega
  have n3 : ¬ X = w.heap.size + 1 + 1 := by omega
  have n4 : ¬ w.heap.size = X := by omega
  have n5 : ¬ w.heap.size + 1 = X := by omega
  have n6 : ¬ w.heap.size + 1 + 1 = X := by omega
  have n7 : ¬ w.heap.size + 1 + 1 = w.heap.size := by omega
  have n8 : ¬ w.heap.size = w.heap.size + 1 + 1 := by omega
  clear xn
  have HBL : Hid (Below w.heap.size w V) := PV.out.sp.bel
  obtain ⟨q0, q1, q2, qf, ql⟩ := threeP QV.out
  go_region
  all_goals
    go_wp2_with fail
    refine bodyPost_ret (v := .tuple #[.agg #[.string s, .int .i64 (k4 : Int), .bool b4], .agg #[.string NMB, .int .i64 3, .int .i64 0, .int .i64 0, .string st]]) (by simp [results, Tryz.results72, go_sem, *]) rfl ⟨HANS.out, ?_⟩
    refine below_drewP ?_
    repeat (refine Below.setCell ?_ (by simp; try omega) _)
    exact HBL.out

set_option maxRecDepth 100000 in
set_option maxHeartbeats 8000000 in
theorem rpred_d (s : ByteArray) (k : Nat) (w : World) (hk : k ≤ s.size) (hs : s.size ≤ 1000) (nm r : List UInt8) (hres : rWord (dr s k) = .ok nm r) (n2 : Nat) (hn2 : n2 = nb s (pos s r)) (hlt : ¬ n2 < s.size) (hgo : (wAft s n2 false).2.1 = true ∨ ((wAft s n2 false).2.1 = false ∧ (wAft s n2 false).2.2 = ⟨#[105, 110]⟩)) : Calls Tryz.prog 72 #[.agg #[.string s, .int .i64 (k : Int), .bool false]] w fun e w' => PrAns e s (rPred (dr s k)) ∧ Below w.heap.size w w' := by
  have HS : Hid _ := Pq.init w s k false
  have HWD : Hid _ := fun W => rword_any s k false W hk hs
  have hws := rWord_suf (dr s k)
  rw [hres] at hws
  obtain ⟨n1, hn1⟩ : ∃ n1, n1 = pos s r := ⟨_, rfl⟩
  have hd1 : dr s n1 = r := by rw [hn1]; exact dr_posd hws
  have hl1 : n1 ≤ s.size := by rw [hn1]; exact pos_le _ _
  have e1 : wAft s k false = (n1, false, ba nm) := by unfold wAft; simp [hres, hn1, Ps.isBad, Ps.left, wdV]
  rw [e1] at HWD
  have HBK : Hid _ := fun W => rblanks_f s n1 W hl1 hs
  have hn2d := nb_dr s n1
  have hn2l := nb_le s n1
  rw [hd1] at hn2d
  rw [hn1, ← hn2] at hn2d hn2l
  have HBK2 : Hid (∀ W, Calls Tryz.prog 73 #[.agg #[.string s, .int .i64 (n1 : Int), .bool false]] W fun e w' => e = .returned (.agg #[.string s, .int .i64 (n2 : Int), .bool false]) ∧ Below W.heap.size W w') := by rw [Hid, hn2, ← hn1]; exact HBK.out
  clear HBK
  have HBK := HBK2
  clear HBK2
  have HN2 : Hid (dr s n2 = r.dropWhile isBlank) := hn2d
  have HRW : Hid (rWord (dr s k) = .ok nm r) := hres
  obtain ⟨k3, b3, wd, hm3⟩ : ∃ k3 b3 wd, wAft s n2 false = (k3, b3, wd) := ⟨_, _, _, rfl⟩
  obtain ⟨k4, b4, lo, hm4⟩ : ∃ k4 b4 lo, nAft s k3 b3 = (k4, b4, lo) := ⟨_, _, _, rfl⟩
  obtain ⟨k5, b5, hm5⟩ : ∃ k5 b5, mAft s ⟨#[46, 46]⟩ k4 b4 = (k5, b5) := ⟨_, _, rfl⟩
  obtain ⟨k6, b6, hi, hm6⟩ : ∃ k6 b6 hi, nAft s k5 b5 = (k6, b6, hi) := ⟨_, _, _, rfl⟩
  have hk3 : k3 ≤ s.size := by have := wAft_le (s := s) (k := n2) (b := false) hn2l; rw [hm3] at this; exact this
  have hk4 : k4 ≤ s.size := by have := nAft_le (s := s) (k := k3) (b := b3) hk3; rw [hm4] at this; exact this
  have hk5 : k5 ≤ s.size := by have := mAft_le (s := s) (m := ⟨#[46, 46]⟩) (k := k4) (b := b4) hk4; rw [hm5] at this; exact this
  have HW3 : Hid _ := fun W => rword_any s n2 false W hn2l hs
  have HW4 : Hid _ := fun W => rnumber_any s k3 b3 W hk3 hs
  have HW5 : Hid _ := fun W => rmark_any s ⟨#[46, 46]⟩ k4 b4 W hk4 hs (by decide) (by decide)
  have HW6 : Hid _ := fun W => rnumber_any s k5 b5 W hk5 hs
  rw [hm3] at HW3
  rw [hm4] at HW4
  rw [hm5] at HW5
  rw [hm6] at HW6
  have hnu := nums_is s n2 (hgo.imp id (fun h => h.2))
  rw [hm3] at hnu hgo
  simp only at hnu hgo
  rw [hm4] at hnu
  simp only at hnu
  rw [hm5] at hnu
  simp only at hnu
  rw [hm6] at hnu
  simp only at hnu
  have HANS : Hid (PrAns (.returned (.tuple #[.agg #[.string s, .int .i64 (k6 : Int), .bool b6], .agg #[.string (ba nm), .int .i64 1, .int .i64 lo, .int .i64 hi, .string ⟨#[]⟩]])) s (rPred (dr s k))) := by
    obtain ⟨u1, u2, u3⟩ := hnu
    have e : rPred (dr s k) = .fail true [] := by
      unfold rPred rBegin; rw [hres]; simp only; rw [← HN2.out, dr_end s n2 (by omega)]
    have e0 : rNums (dr s n2) = .fail true [] := by
      rw [dr_end s n2 (by omega)]; rfl
    have f1 : (rPred (dr s k)).left = (rNums (dr s n2)).left := by rw [e, e0]; rfl
    have f2 : (rPred (dr s k)).isBad = (rNums (dr s n2)).isBad := by rw [e, e0]; rfl
    have f3 : ∀ q' l, rPred (dr s k) = .ok q' l → ∃ v, rNums (dr s n2) = .ok v l ∧ q' = ⟨nm, 1, v.1, v.2, []⟩ := fun q' l h => by rw [e] at h; cases h
    rw [Hid]
    refine PrAns.mk _ _ _ _ _ (u1.trans (by rw [f1])) (u2.trans f2.symm) (fun q' l h => ?_)
    obtain ⟨v, hv, hq⟩ := f3 q' l h
    have hlh := u3 v l hv
    rw [hq, hlh]
    simp [ba_list]
  have HG : Hid (b3 = true ∨ (b3 = false ∧ wd = ⟨#[105, 110]⟩)) := hgo
  clear hm3 hm4 hm5 hm6 hnu hgo
  clear hn1 hd1 e1 hres hws hn2d hn2
  generalize ba nm = NMB at *
  go_enter Tryz.func72, Tryz.ntmps72
  go_wp2_with fail
  refine Calls.mono (HWD.out _) ?_
  rintro e W1 ⟨rfl, b1⟩
  have S1 : Hid (Sp w W1 s k false) := HS.out.1.below b1
  have O1 : Hid _ := (b1.block _ (lt_of_block HS.out.2)).trans HS.out.2
  obtain ⟨c0, c1, c2, cf, cl, d0, d1, d2, df, dl⟩ := S1.out.cells
  clear b1 HS HWD
  go_wp2_with fail
  refine Calls.mono (HBK.out _) ?_
  rintro e W2 ⟨rfl, b2⟩
  have S2 : Hid (Sp w W2 s n1 false) := (S1.out.set3 n1 false).below b2
  have O2 : Hid _ := out2_carry O1.out b2
  clear c0 c1 c2 cf cl d0 d1 d2 df dl b2 S1 O1 HBK
  obtain ⟨c0, c1, c2, cf, cl, d0, d1, d2, df, dl⟩ := S2.out.cells
  go_upto_region 4 with fail
  obtain ⟨V, hV⟩ : ∃ V, V = ((((W2.setCell ⟨w.heap.size, 0, none⟩ (.string s)).setCell ⟨w.heap.size, 1, none⟩ (.int .i64 (n2 : Int))).setCell ⟨w.heap.size, 2, none⟩ (.bool false)).alloc (.cells #[.string NMB, .int .i64 0, .int .i64 0, .int .i64 0, .string ⟨#[]⟩] 156)) := ⟨_, rfl⟩
  rw [← hV]
  have PV : Hid (Pq w V s n2 false W2.heap.size #[.string NMB, .int .i64 0, .int .i64 0, .int .i64 0, .string ⟨#[]⟩]) := by rw [Hid, hV]; exact Pq.at4 S2.out O2.out n2 false _
  clear hV S2 O2 c0 c1 c2 cf cl d0 d1 d2 df dl
  generalize W2.heap.size = X at PV ⊢
  obtain ⟨c0, c1, c2, cf, cl, d0, d1, d2, df, dl⟩ := PV.out.sp.cells
  obtain ⟨x0, x1, x2, x3, x4, xf, xl⟩ := fiveP PV.out.xb
  obtain ⟨y0, y1, y2, y3, y4, yf, yl⟩ := fiveP PV.out.o2
  have hdl : decide ((n2 : Int) < (s.size : Int)) = false := by simp; omega
  go_wp2_with fail
  refine Calls.mono (HW3.out _) ?_
  rintro e W3 ⟨rfl, b3'⟩
  have PV3 : Hid _ := PV.out.below b3'
  have HS3 : Hid (Below W3.heap.size W3 (W3.alloc (.cells #[.string s, .int .i64 (k3 : Int), .bool b3] 176))) := (Below.refl _ _).alloc (Nat.le_refl _) _
  clear b3' HW3 PV c0 c1 c2 cf cl d0 d1 d2 df dl x0 x1 x2 x3 x4 xf xl y0 y1 y2 y3 y4 yf yl
  obtain ⟨c0, c1, c2, cf, cl, d0, d1, d2, df, dl⟩ := PV3.out.sp.cells
  rcases HG.out with hb3 | ⟨hb3, hwd⟩
  all_goals
    try subst hwd
    subst hb3
    clear HG
    go_wp2_with fail
    refine Calls.mono (HW4.out _) ?_
    rintro e W4 ⟨rfl, b4'⟩
    have PV4 : Hid _ := (PV3.out.below HS3.out).below b4'
    clear b4' PV3 HS3 HW4 c0 c1 c2 cf cl d0 d1 d2 df dl
    have HS4 : Hid (Below W4.heap.size W4 (W4.alloc (.cells #[.string s, .int .i64 (k4 : Int), .bool b4] 176))) := (Below.refl _ _).alloc (Nat.le_refl _) _
    go_wp2_with fail
    refine Calls.mono (HW5.out _) ?_
    rintro e W5 ⟨rfl, b5'⟩
    have PV5 : Hid _ := (PV4.out.below HS4.out).below b5'
    clear b5' PV4 HS4 HW5
    go_wp2_with fail
    refine Calls.mono (HW6.out _) ?_
    rintro e W6 ⟨rfl, b6'⟩
    have PV6 : Hid _ := PV5.out.below b6'
    clear b6' PV5 HW6
    obtain ⟨c0, c1, c2, cf, cl, d0, d1, d2, df, dl⟩ := PV6.out.sp.cells
    obtain ⟨x0, x1, x2, x3, x4, xf, xl⟩ := fiveP PV6.out.xb
    obtain ⟨y0, y1, y2, y3, y4, yf, yl⟩ := fiveP PV6.out.o2
    go_upto_region 24 with fail
    obtain ⟨U, hU⟩ : ∃ U, U = ((W6.setCell ⟨X, 1, none⟩ (.int .i64 1)).setCell ⟨X, 2, none⟩ (.int .i64 lo)).setCell ⟨X, 3, none⟩ (.int .i64 hi) := ⟨_, rfl⟩
    have PU : Hid (Pq w U s n2 false X #[.string NMB, .int .i64 1, .int .i64 lo, .int .i64 hi, .string ⟨#[]⟩]) := by
      rw [Hid, hU]; exact ((PV6.out.setx 1 _ rfl).setx 2 _ rfl).setx 3 _ rfl
    have hUs : U.heap.size = W6.heap.size := by rw [hU]; simp [World.setCell]
    rw [← hU]
    rw [← hUs]
    obtain ⟨V, hV⟩ : ∃ V, V = U.alloc (.cells #[.string s, .int .i64 (k6 : Int), .bool b6] 176) := ⟨_, rfl⟩
    have PV : Hid (Pq w V s n2 false X #[.string NMB, .int .i64 1, .int .i64 lo, .int .i64 hi, .string ⟨#[]⟩]) := by rw [Hid, hV]; exact PU.out.below ((Below.refl _ _).alloc (Nat.le_refl _) _)
    have QV : Hid (V.heap[U.heap.size]? = some (.cells #[.string s, .int .i64 (k6 : Int), .bool b6] 176 (0, 0))) := by rw [Hid, hV]; exact heap_alloc_new U _
    rw [← hV]
    generalize U.heap.size = Q at QV ⊢
    clear hV hU hUs PU PV6 c0 c1 c2 cf cl d0 d1 d2 df dl x0 x1 x2 x3 x4 xf xl y0 y1 y2 y3 y4 yf yl
    obtain ⟨c0, c1, c2, cf, cl, d0, d1, d2, df, dl⟩ := PV.out.sp.cells
    obtain ⟨x0, x1, x2, x3, x4, xf, xl⟩ := fiveP PV.out.xb
    obtain ⟨y0, y1, y2, y3, y4, yf, yl⟩ := fiveP PV.out.o2
    have xn := PV.out.xl
    have n1 : ¬ X = w.heap.size := by omega
    have n2' : ¬ X = w.heap.size + 1 := by omega
    have n3 : ¬ X = w.heap.size + 1 + 1 := by omega
    have n4 : ¬ w.heap.size = X := by omega
    have n5 : ¬ w.heap.size + 1 = X := by omega
    have n6 : ¬ w.heap.size + 1 + 1 = X := by omega
    have n7 : ¬ w.heap.size + 1 + 1 = w.heap.size := by omega
    have n8 : ¬ w.heap.size = w.heap.size + 1 + 1 := by omega
    clear xn
    have HBL : Hid (Below w.heap.size w V) := PV.out.sp.bel
    obtain ⟨q0, q1, q2, qf, ql⟩ := threeP QV.out
    go_region
    all_goals
      go_wp2_with fail
      refine bodyPost_ret (v := .tuple #[.agg #[.string s, .int .i64 (k6 : Int), .bool b6], .agg #[.string NMB, .int .i64 1, .int .i64 lo, .int .i64 hi, .string ⟨#[]⟩]]) (by simp [results, Tryz.results72, go_sem, *]) rfl ⟨HANS.out, ?_⟩
      refine below_drewP ?_
      repeat (refine Below.setCell ?_ (by simp; try omega) _)
      exact HBL.out

set_option maxRecDepth 100000 in
set_option maxHeartbeats 8000000 in
theorem rpred_e (s : ByteArray) (k : Nat) (w : World) (hk : k ≤ s.size) (hs : s.size ≤ 1000) (nm r : List UInt8) (hres : rWord (dr s k) = .ok nm r) (n2 : Nat) (hn2 : n2 = nb s (pos s r)) (hlt : n2 < s.size) (hc1 : ¬ (s[n2].toNat : Int) = 61) (hc2 : ¬ (s[n2].toNat : Int) = 94) (hgo : (wAft s n2 false).2.1 = true ∨ ((wAft s n2 false).2.1 = false ∧ (wAft s n2 false).2.2 = ⟨#[105, 110]⟩)) : Calls Tryz.prog 72 #[.agg #[.string s, .int .i64 (k : Int), .bool false]] w fun e w' => PrAns e s (rPred (dr s k)) ∧ Below w.heap.size w w' := by
  have HS : Hid _ := Pq.init w s k false
  have HWD : Hid _ := fun W => rword_any s k false W hk hs
  have hws := rWord_suf (dr s k)
  rw [hres] at hws
  obtain ⟨n1, hn1⟩ : ∃ n1, n1 = pos s r := ⟨_, rfl⟩
  have hd1 : dr s n1 = r := by rw [hn1]; exact dr_posd hws
  have hl1 : n1 ≤ s.size := by rw [hn1]; exact pos_le _ _
  have e1 : wAft s k false = (n1, false, ba nm) := by unfold wAft; simp [hres, hn1, Ps.isBad, Ps.left, wdV]
  rw [e1] at HWD
  have HBK : Hid _ := fun W => rblanks_f s n1 W hl1 hs
  have hn2d := nb_dr s n1
  have hn2l := nb_le s n1
  rw [hd1] at hn2d
  rw [hn1, ← hn2] at hn2d hn2l
  have HBK2 : Hid (∀ W, Calls Tryz.prog 73 #[.agg #[.string s, .int .i64 (n1 : Int), .bool false]] W fun e w' => e = .returned (.agg #[.string s, .int .i64 (n2 : Int), .bool false]) ∧ Below W.heap.size W w') := by rw [Hid, hn2, ← hn1]; exact HBK.out
  clear HBK
  have HBK := HBK2
  clear HBK2
  have HN2 : Hid (dr s n2 = r.dropWhile isBlank) := hn2d
  have HRW : Hid (rWord (dr s k) = .ok nm r) := hres
  obtain ⟨k3, b3, wd, hm3⟩ : ∃ k3 b3 wd, wAft s n2 false = (k3, b3, wd) := ⟨_, _, _, rfl⟩
  obtain ⟨k4, b4, lo, hm4⟩ : ∃ k4 b4 lo, nAft s k3 b3 = (k4, b4, lo) := ⟨_, _, _, rfl⟩
  obtain ⟨k5, b5, hm5⟩ : ∃ k5 b5, mAft s ⟨#[46, 46]⟩ k4 b4 = (k5, b5) := ⟨_, _, rfl⟩
  obtain ⟨k6, b6, hi, hm6⟩ : ∃ k6 b6 hi, nAft s k5 b5 = (k6, b6, hi) := ⟨_, _, _, rfl⟩
  have hk3 : k3 ≤ s.size := by have := wAft_le (s := s) (k := n2) (b := false) hn2l; rw [hm3] at this; exact this
  have hk4 : k4 ≤ s.size := by have := nAft_le (s := s) (k := k3) (b := b3) hk3; rw [hm4] at this; exact this
  have hk5 : k5 ≤ s.size := by have := mAft_le (s := s) (m := ⟨#[46, 46]⟩) (k := k4) (b := b4) hk4; rw [hm5] at this; exact this
  have HW3 : Hid _ := fun W => rword_any s n2 false W hn2l hs
  have HW4 : Hid _ := fun W => rnumber_any s k3 b3 W hk3 hs
  have HW5 : Hid _ := fun W => rmark_any s ⟨#[46, 46]⟩ k4 b4 W hk4 hs (by decide) (by decide)
  have HW6 : Hid _ := fun W => rnumber_any s k5 b5 W hk5 hs
  rw [hm3] at HW3
  rw [hm4] at HW4
  rw [hm5] at HW5
  rw [hm6] at HW6
  have hnu := nums_is s n2 (hgo.imp id (fun h => h.2))
  rw [hm3] at hnu hgo
  simp only at hnu hgo
  rw [hm4] at hnu
  simp only at hnu
  rw [hm5] at hnu
  simp only at hnu
  rw [hm6] at hnu
  simp only at hnu
  have HANS : Hid (PrAns (.returned (.tuple #[.agg #[.string s, .int .i64 (k6 : Int), .bool b6], .agg #[.string (ba nm), .int .i64 1, .int .i64 lo, .int .i64 hi, .string ⟨#[]⟩]])) s (rPred (dr s k))) := by
    obtain ⟨u1, u2, u3⟩ := hnu
    have e : rPred (dr s k) = rAsk nm (dr s n2) := by
      unfold rPred rBegin; rw [hres]; simp only; rw [← HN2.out, dr_cons s n2 hlt]
    have e2 : rAsk nm (dr s n2) = match rNums (dr s n2) with
        | .ok v r' => .ok ⟨nm, 1, v.1, v.2, []⟩ r'
        | .fail e r' => .fail e r' := by
      rw [dr_cons s n2 hlt]; unfold rAsk; simp only; rw [if_neg (by omega), if_neg (by omega)]; rfl
    rw [e2] at e
    have f1 : (rPred (dr s k)).left = (rNums (dr s n2)).left := by rw [e]; cases rNums (dr s n2) <;> rfl
    have f2 : (rPred (dr s k)).isBad = (rNums (dr s n2)).isBad := by rw [e]; cases rNums (dr s n2) <;> rfl
    have f3 : ∀ q' l, rPred (dr s k) = .ok q' l → ∃ v, rNums (dr s n2) = .ok v l ∧ q' = ⟨nm, 1, v.1, v.2, []⟩ := fun q' l h => by
      rw [e] at h
      cases hx : rNums (dr s n2) with
      | fail e' r' => rw [hx] at h; cases h
      | ok v r' => rw [hx] at h; cases h; exact ⟨v, rfl, rfl⟩
    rw [Hid]
    refine PrAns.mk _ _ _ _ _ (u1.trans (by rw [f1])) (u2.trans f2.symm) (fun q' l h => ?_)
    obtain ⟨v, hv, hq⟩ := f3 q' l h
    have hlh := u3 v l hv
    rw [hq, hlh]
    simp [ba_list]
  have HG : Hid (b3 = true ∨ (b3 = false ∧ wd = ⟨#[105, 110]⟩)) := hgo
  clear hm3 hm4 hm5 hm6 hnu hgo
  clear hn1 hd1 e1 hres hws hn2d hn2
  generalize ba nm = NMB at *
  go_enter Tryz.func72, Tryz.ntmps72
  go_wp2_with fail
  refine Calls.mono (HWD.out _) ?_
  rintro e W1 ⟨rfl, b1⟩
  have S1 : Hid (Sp w W1 s k false) := HS.out.1.below b1
  have O1 : Hid _ := (b1.block _ (lt_of_block HS.out.2)).trans HS.out.2
  obtain ⟨c0, c1, c2, cf, cl, d0, d1, d2, df, dl⟩ := S1.out.cells
  clear b1 HS HWD
  go_wp2_with fail
  refine Calls.mono (HBK.out _) ?_
  rintro e W2 ⟨rfl, b2⟩
  have S2 : Hid (Sp w W2 s n1 false) := (S1.out.set3 n1 false).below b2
  have O2 : Hid _ := out2_carry O1.out b2
  clear c0 c1 c2 cf cl d0 d1 d2 df dl b2 S1 O1 HBK
  obtain ⟨c0, c1, c2, cf, cl, d0, d1, d2, df, dl⟩ := S2.out.cells
  go_upto_region 4 with fail
  obtain ⟨V, hV⟩ : ∃ V, V = ((((W2.setCell ⟨w.heap.size, 0, none⟩ (.string s)).setCell ⟨w.heap.size, 1, none⟩ (.int .i64 (n2 : Int))).setCell ⟨w.heap.size, 2, none⟩ (.bool false)).alloc (.cells #[.string NMB, .int .i64 0, .int .i64 0, .int .i64 0, .string ⟨#[]⟩] 156)) := ⟨_, rfl⟩
  rw [← hV]
  have PV : Hid (Pq w V s n2 false W2.heap.size #[.string NMB, .int .i64 0, .int .i64 0, .int .i64 0, .string ⟨#[]⟩]) := by rw [Hid, hV]; exact Pq.at4 S2.out O2.out n2 false _
  clear hV S2 O2 c0 c1 c2 cf cl d0 d1 d2 df dl
  generalize W2.heap.size = X at PV ⊢
  obtain ⟨c0, c1, c2, cf, cl, d0, d1, d2, df, dl⟩ := PV.out.sp.cells
  obtain ⟨x0, x1, x2, x3, x4, xf, xl⟩ := fiveP PV.out.xb
  obtain ⟨y0, y1, y2, y3, y4, yf, yl⟩ := fiveP PV.out.o2
  have g1 : ((s[n2].toNat : Int) == 61) = false := by simpa using hc1
  have g2 : ((s[n2].toNat : Int) == 94) = false := by simpa using hc2
  clear hc1 hc2
  go_wp2_with fail
  refine Calls.mono (HW3.out _) ?_
  rintro e W3 ⟨rfl, b3'⟩
  have PV3 : Hid _ := PV.out.below b3'
  have HS3 : Hid (Below W3.heap.size W3 (W3.alloc (.cells #[.string s, .int .i64 (k3 : Int), .bool b3] 176))) := (Below.refl _ _).alloc (Nat.le_refl _) _
  clear b3' HW3 PV c0 c1 c2 cf cl d0 d1 d2 df dl x0 x1 x2 x3 x4 xf xl y0 y1 y2 y3 y4 yf yl
  obtain ⟨c0, c1, c2, cf, cl, d0, d1, d2, df, dl⟩ := PV3.out.sp.cells
  rcases HG.out with hb3 | ⟨hb3, hwd⟩
  all_goals
    try subst hwd
    subst hb3
    clear HG
    go_wp2_with fail
    refine Calls.mono (HW4.out _) ?_
    rintro e W4 ⟨rfl, b4'⟩
    have PV4 : Hid _ := (PV3.out.below HS3.out).below b4'
    clear b4' PV3 HS3 HW4 c0 c1 c2 cf cl d0 d1 d2 df dl
    have HS4 : Hid (Below W4.heap.size W4 (W4.alloc (.cells #[.string s, .int .i64 (k4 : Int), .bool b4] 176))) := (Below.refl _ _).alloc (Nat.le_refl _) _
    go_wp2_with fail
    refine Calls.mono (HW5.out _) ?_
    rintro e W5 ⟨rfl, b5'⟩
    have PV5 : Hid _ := (PV4.out.below HS4.out).below b5'
    clear b5' PV4 HS4 HW5
    go_wp2_with fail
    refine Calls.mono (HW6.out _) ?_
    rintro e W6 ⟨rfl, b6'⟩
    have PV6 : Hid _ := PV5.out.below b6'
    clear b6' PV5 HW6
    obtain ⟨c0, c1, c2, cf, cl, d0, d1, d2, df, dl⟩ := PV6.out.sp.cells
    obtain ⟨x0, x1, x2, x3, x4, xf, xl⟩ := fiveP PV6.out.xb
    obtain ⟨y0, y1, y2, y3, y4, yf, yl⟩ := fiveP PV6.out.o2
    go_upto_region 24 with fail
    obtain ⟨U, hU⟩ : ∃ U, U = ((W6.setCell ⟨X, 1, none⟩ (.int .i64 1)).setCell ⟨X, 2, none⟩ (.int .i64 lo)).setCell ⟨X, 3, none⟩ (.int .i64 hi) := ⟨_, rfl⟩
    have PU : Hid (Pq w U s n2 false X #[.string NMB, .int .i64 1, .int .i64 lo, .int .i64 hi, .string ⟨#[]⟩]) := by
      rw [Hid, hU]; exact ((PV6.out.setx 1 _ rfl).setx 2 _ rfl).setx 3 _ rfl
    have hUs : U.heap.size = W6.heap.size := by rw [hU]; simp [World.setCell]
    rw [← hU]
    rw [← hUs]
    obtain ⟨V, hV⟩ : ∃ V, V = U.alloc (.cells #[.string s, .int .i64 (k6 : Int), .bool b6] 176) := ⟨_, rfl⟩
    have PV : Hid (Pq w V s n2 false X #[.string NMB, .int .i64 1, .int .i64 lo, .int .i64 hi, .string ⟨#[]⟩]) := by rw [Hid, hV]; exact PU.out.below ((Below.refl _ _).alloc (Nat.le_refl _) _)
    have QV : Hid (V.heap[U.heap.size]? = some (.cells #[.string s, .int .i64 (k6 : Int), .bool b6] 176 (0, 0))) := by rw [Hid, hV]; exact heap_alloc_new U _
    rw [← hV]
    generalize U.heap.size = Q at QV ⊢
    clear hV hU hUs PU PV6 c0 c1 c2 cf cl d0 d1 d2 df dl x0 x1 x2 x3 x4 xf xl y0 y1 y2 y3 y4 yf yl
    obtain ⟨c0, c1, c2, cf, cl, d0, d1, d2, df, dl⟩ := PV.out.sp.cells
    obtain ⟨x0, x1, x2, x3, x4, xf, xl⟩ := fiveP PV.out.xb
    obtain ⟨y0, y1, y2, y3, y4, yf, yl⟩ := fiveP PV.out.o2
    have xn := PV.out.xl
    have n1 : ¬ X = w.heap.size := by omega
    have n2' : ¬ X = w.heap.size + 1 := by omega
    have n3 : ¬ X = w.heap.size + 1 + 1 := by omega
    have n4 : ¬ w.heap.size = X := by omega
    have n5 : ¬ w.heap.size + 1 = X := by omega
    have n6 : ¬ w.heap.size + 1 + 1 = X := by omega
    have n7 : ¬ w.heap.size + 1 + 1 = w.heap.size := by omega
    have n8 : ¬ w.heap.size = w.heap.size + 1 + 1 := by omega
    clear xn
    have HBL : Hid (Below w.heap.size w V) := PV.out.sp.bel
    obtain ⟨q0, q1, q2, qf, ql⟩ := threeP QV.out
    go_region
    all_goals
      go_wp2_with fail
      refine bodyPost_ret (v := .tuple #[.agg #[.string s, .int .i64 (k6 : Int), .bool b6], .agg #[.string NMB, .int .i64 1, .int .i64 lo, .int .i64 hi, .string ⟨#[]⟩]]) (by simp [results, Tryz.results72, go_sem, *]) rfl ⟨HANS.out, ?_⟩
      refine below_drewP ?_
      repeat (refine Below.setCell ?_ (by simp; try omega) _)
      exact HBL.out
end Go.Proofs.YtpepbhmdfjpblaaGreatDoor

/- The document's reader (wigwagref06): pred, walked: another word than in; all ways together. -/
namespace Go.Proofs.YtpepbhmdfjpblaaGreatDoor
open Go.ChangeShapes Go.WideShapes Go.ChangeAt Go.RowKit
set_option linter.unusedVariables false
set_option linter.unusedSimpArgs false

theorem bcellP {W w1 : World} (hb : Below W.heap.size W w1) : (∀ b o, b < W.heap.size → w1.cell? ⟨b, o, none⟩ = W.cell? ⟨b, o, none⟩) ∧ (∀ b o, b < W.heap.size → w1.frozen? ⟨b, o, none⟩ = W.frozen? ⟨b, o, none⟩) :=
  ⟨fun b o h => hb.cell (p := ⟨b, o, none⟩) h, fun b o h => hb.frozen (p := ⟨b, o, none⟩) h⟩

set_option maxRecDepth 100000 in
set_option maxHeartbeats 8000000 in
theorem rpred_f (s : ByteArray) (k : Nat) (w : World) (hk : k ≤ s.size) (hs : s.size ≤ 1000) (nm r : List UInt8) (hres : rWord (dr s k) = .ok nm r) (n2 : Nat) (hn2 : n2 = nb s (pos s r)) (hlt : n2 < s.size) (hc1 : ¬ (s[n2].toNat : Int) = 61) (hc2 : ¬ (s[n2].toNat : Int) = 94) (v r3 : List UInt8) (hw2 : rWord (dr s n2) = .ok v r3) (hne : v ≠ [105, 110]) : Calls Tryz.prog 72 #[.agg #[.string s, .int .i64 (k : Int), .bool false]] w fun e w' => PrAns e s (rPred (dr s k)) ∧ Below w.heap.size w w' := by
  have HS : Hid _ := Pq.init w s k false
  have HWD : Hid _ := fun W => rword_any s k false W hk hs
  have hws := rWord_suf (dr s k)
  rw [hres] at hws
  obtain ⟨n1, hn1⟩ : ∃ n1, n1 = pos s r := ⟨_, rfl⟩
  have hd1 : dr s n1 = r := by rw [hn1]; exact dr_posd hws
  have hl1 : n1 ≤ s.size := by rw [hn1]; exact pos_le _ _
  have e1 : wAft s k false = (n1, false, ba nm) := by unfold wAft; simp [hres, hn1, Ps.isBad, Ps.left, wdV]
  rw [e1] at HWD
  have HBK : Hid _ := fun W => rblanks_f s n1 W hl1 hs
  have hn2d := nb_dr s n1
  have hn2l := nb_le s n1
  rw [hd1] at hn2d
  rw [hn1, ← hn2] at hn2d hn2l
  have HBK2 : Hid (∀ W, Calls Tryz.prog 73 #[.agg #[.string s, .int .i64 (n1 : Int), .bool false]] W fun e w' => e = .returned (.agg #[.string s, .int .i64 (n2 : Int), .bool false]) ∧ Below W.heap.size W w') := by rw [Hid, hn2, ← hn1]; exact HBK.out
  clear HBK
  have HBK := HBK2
  clear HBK2
  have HN2 : Hid (dr s n2 = r.dropWhile isBlank) := hn2d
  have HRW : Hid (rWord (dr s k) = .ok nm r) := hres
  obtain ⟨k3, hk3⟩ : ∃ k3, k3 = pos s r3 := ⟨_, rfl⟩
  have hm3 : wAft s n2 false = (k3, false, ba v) := by unfold wAft; simp [hw2, hk3, Ps.isBad, Ps.left, wdV]
  have HW3 : Hid _ := fun W => rword_any s n2 false W hn2l hs
  rw [hm3] at HW3
  have HANS : Hid (PrAns (.returned (.tuple #[.agg #[.string s, .int .i64 (n2 : Int), .bool true], .agg #[.string (ba nm), .int .i64 0, .int .i64 0, .int .i64 0, .string ⟨#[]⟩]])) s (rPred (dr s k))) := by
    have e : rPred (dr s k) = rAsk nm (dr s n2) := by
      unfold rPred rBegin; rw [hres]; simp only; rw [← HN2.out, dr_cons s n2 hlt]
    have e2 : rAsk nm (dr s n2) = match rNums (dr s n2) with
        | .ok v r' => .ok ⟨nm, 1, v.1, v.2, []⟩ r'
        | .fail e r' => .fail e r' := by
      rw [dr_cons s n2 hlt]; unfold rAsk; simp only; rw [if_neg (by omega), if_neg (by omega)]; rfl
    rw [e2] at e
    have e3 : rNums (dr s n2) = .fail false (dr s n2) := by
      unfold rNums rThis; rw [hw2]; simp only; rw [if_neg hne]
      have := word_app hw2
      rw [HN2.out, dw_dw] at this
      rw [HN2.out, this]
    rw [e3] at e
    rw [Hid, e]
    exact PrAns.mk _ _ _ _ _ (pos_dr hn2l).symm rfl (fun _ _ h => by cases h)
  have hx1 : (ba v).toList ≠ [105, 110] := by rw [ba_tl]; exact hne
  have hx2 : ((ba v).toList == [105, 110]) = false := by simpa using hx1
  generalize ba v = wd at HW3 hx1 hx2
  clear hm3 hk3 hw2 hne
  clear hn1 hd1 e1 hres hws hn2d hn2
  generalize ba nm = NMB at *
  go_enter Tryz.func72, Tryz.ntmps72
  go_wp2_with fail
  refine Calls.mono (HWD.out _) ?_
  rintro e W1 ⟨rfl, b1⟩
  have S1 : Hid (Sp w W1 s k false) := HS.out.1.below b1
  have O1 : Hid _ := (b1.block _ (lt_of_block HS.out.2)).trans HS.out.2
  obtain ⟨c0, c1, c2, cf, cl, d0, d1, d2, df, dl⟩ := S1.out.cells
  clear b1 HS HWD
  go_wp2_with fail
  refine Calls.mono (HBK.out _) ?_
  rintro e W2 ⟨rfl, b2⟩
  have S2 : Hid (Sp w W2 s n1 false) := (S1.out.set3 n1 false).below b2
  have O2 : Hid _ := out2_carry O1.out b2
  clear c0 c1 c2 cf cl d0 d1 d2 df dl b2 S1 O1 HBK
  obtain ⟨c0, c1, c2, cf, cl, d0, d1, d2, df, dl⟩ := S2.out.cells
  go_upto_region 4 with fail
  obtain ⟨V, hV⟩ : ∃ V, V = ((((W2.setCell ⟨w.heap.size, 0, none⟩ (.string s)).setCell ⟨w.heap.size, 1, none⟩ (.int .i64 (n2 : Int))).setCell ⟨w.heap.size, 2, none⟩ (.bool false)).alloc (.cells #[.string NMB, .int .i64 0, .int .i64 0, .int .i64 0, .string ⟨#[]⟩] 156)) := ⟨_, rfl⟩
  rw [← hV]
  have PV : Hid (Pq w V s n2 false W2.heap.size #[.string NMB, .int .i64 0, .int .i64 0, .int .i64 0, .string ⟨#[]⟩]) := by rw [Hid, hV]; exact Pq.at4 S2.out O2.out n2 false _
  clear hV S2 O2 c0 c1 c2 cf cl d0 d1 d2 df dl
  generalize W2.heap.size = X at PV ⊢
  obtain ⟨c0, c1, c2, cf, cl, d0, d1, d2, df, dl⟩ := PV.out.sp.cells
  obtain ⟨x0, x1, x2, x3, x4, xf, xl⟩ := fiveP PV.out.xb
  obtain ⟨y0, y1, y2, y3, y4, yf, yl⟩ := fiveP PV.out.o2
  have g1 : ((s[n2].toNat : Int) == 61) = false := by simpa using hc1
  have g2 : ((s[n2].toNat : Int) == 94) = false := by simpa using hc2
  clear hc1 hc2
  go_wp2_with fail
  refine Calls.mono (HW3.out _) ?_
  rintro e W3 ⟨rfl, b3'⟩
  have PV3 : Hid _ := PV.out.below b3'
  clear b3' HW3 PV c0 c1 c2 cf cl d0 d1 d2 df dl x0 x1 x2 x3 x4 xf xl y0 y1 y2 y3 y4 yf yl
  obtain ⟨c0, c1, c2, cf, cl, d0, d1, d2, df, dl⟩ := PV3.out.sp.cells
  go_upto_region 18 with fail
  obtain ⟨V, hV⟩ : ∃ V, V = W3.alloc (.cells #[.string s, .int .i64 (k3 : Int), .bool false] 176) := ⟨_, rfl⟩
  have PV : Hid (Pq w V s n2 false X #[.string NMB, .int .i64 0, .int .i64 0, .int .i64 0, .string ⟨#[]⟩]) := by rw [Hid, hV]; exact PV3.out.below ((Below.refl _ _).alloc (Nat.le_refl _) _)
  have QV : Hid (V.heap[W3.heap.size]? = some (.cells #[.string s, .int .i64 (k3 : Int), .bool false] 176 (0, 0))) := by rw [Hid, hV]; exact heap_alloc_new W3 _
  rw [← hV]
  have hQ3 : w.heap.size + 3 ≤ W3.heap.size := by have := lt_of_block PV3.out.o2; omega
  generalize W3.heap.size = Q at QV hQ3 ⊢
  clear hV PV3 c0 c1 c2 cf cl d0 d1 d2 df dl
  obtain ⟨c0, c1, c2, cf, cl, d0, d1, d2, df, dl⟩ := PV.out.sp.cells
  obtain ⟨x0, x1, x2, x3, x4, xf, xl⟩ := fiveP PV.out.xb
  obtain ⟨y0, y1, y2, y3, y4, yf, yl⟩ := fiveP PV.out.o2
  obtain ⟨q0, q1, q2, qf, ql⟩ := threeP QV.out
  have xn := PV.out.xl
  have n1 : ¬ X = w.heap.size := by omega
  have n2' : ¬ X = w.heap.size + 1 := by omega
  have n3 : ¬ X = w.heap.size + 1 + 1 := by omega
  have n4 : ¬ w.heap.size = X := by omega
  have n5 : ¬ w.heap.size + 1 = X := by omega
  have n6 : ¬ w.heap.size + 1 + 1 = X := by omega
  have n7 : ¬ w.heap.size + 1 + 1 = w.heap.size := by omega
  have n8 : ¬ w.heap.size = w.heap.size + 1 + 1 := by omega
  have m1 : ¬ Q = w.heap.size + 1 + 1 := by omega
  have m2 : ¬ w.heap.size + 1 + 1 = Q := by omega
  clear xn
  have HBL : Hid (Below w.heap.size w V) := PV.out.sp.bel
  go_region_with ((go_at_call 97; refine Calls.mono (rbad_f s k3 n2 _) ?_; rintro e W4 ⟨rfl, b4⟩; have P4 : Hid (Pq w W4 s n2 false X #[.string NMB, .int .i64 0, .int .i64 0, .int .i64 0, .string ⟨#[]⟩]) := PV.out.below (W' := W4) ⟨b4.os, b4.tape, b4.output, b4.size, b4.block⟩; obtain ⟨k0, k1, k2, kf, kl, ad0, ad1, ad2, af1, al1⟩ := P4.out.sp.cells; obtain ⟨ax0, ax1, ax2, ax3, ax4, axf, axl⟩ := fiveP P4.out.xb; obtain ⟨ay0, ay1, ay2, ay3, ay4, ayf, ayl⟩ := fiveP P4.out.o2; have HB4 : Hid (Below w.heap.size w W4) := P4.out.sp.bel; clear b4 P4))
  all_goals
    go_wp2_with fail
    refine bodyPost_ret (v := .tuple #[.agg #[.string s, .int .i64 (n2 : Int), .bool true], .agg #[.string NMB, .int .i64 0, .int .i64 0, .int .i64 0, .string ⟨#[]⟩]]) (by simp [results, Tryz.results72, go_sem, *]) rfl ⟨HANS.out, ?_⟩
    repeat (refine Below.setCell ?_ (by simp; try omega) _)
    exact HB4.out

theorem rpred_any (s : ByteArray) (k : Nat) (w : World) (hk : k ≤ s.size) (hs : s.size ≤ 1000) : Calls Tryz.prog 72 #[.agg #[.string s, .int .i64 (k : Int), .bool false]] w fun e w' => PrAns e s (rPred (dr s k)) ∧ Below w.heap.size w w' := by
  cases hres : rWord (dr s k) with
  | fail ee r => exact rpred_a s k w hk hs ee r hres
  | ok nm r =>
    obtain ⟨n2, hn2⟩ : ∃ n2, n2 = nb s (pos s r) := ⟨_, rfl⟩
    by_cases hlt : n2 < s.size
    · by_cases h61 : (s[n2].toNat : Int) = 61
      · exact rpred_b s k w hk hs nm r hres n2 hn2 hlt h61
      · by_cases h94 : (s[n2].toNat : Int) = 94
        · exact rpred_c s k w hk hs nm r hres n2 hn2 hlt h94
        · cases hw : rWord (dr s n2) with
          | fail e' r' => exact rpred_e s k w hk hs nm r hres n2 hn2 hlt h61 h94 (Or.inl (by unfold wAft; simp [hw, Ps.isBad]))
          | ok v r3 =>
            by_cases hv : v = [105, 110]
            · exact rpred_e s k w hk hs nm r hres n2 hn2 hlt h61 h94 (Or.inr (by unfold wAft; subst hv; simp [hw, Ps.isBad, wdV]; rfl))
            · exact rpred_f s k w hk hs nm r hres n2 hn2 hlt h61 h94 v r3 hw hv
    · exact rpred_d s k w hk hs nm r hres n2 hn2 hlt (Or.inl (by
        have : rWord (dr s n2) = .fail true [] := by rw [dr_end s n2 (by omega)]; rfl
        unfold wAft; simp [this, Ps.isBad]))
end Go.Proofs.YtpepbhmdfjpblaaGreatDoor

/- The document's reader (wigwagref06): Parse. -/
namespace Go.Proofs.YtpepbhmdfjpblaaGreatDoor
open Go.ChangeShapes Go.WideShapes Go.ChangeAt Go.RowKit
set_option linter.unusedVariables false

/-- The place, and the predicates so far. -/
structure Pg (w W : World) (s : ByteArray) (j : Nat) (v : Value) (acc : List Pl) : Prop where
  box : W.heap[w.heap.size]? = some (.cells #[.string s, .int .i64 (j : Int), .bool false] 176 (0, 0))
  row : W.ownsRow (w.heap.size + 1) 156 5 v acc.length (acc.flatMap Pl.cells)
  bel : Below w.heap.size w W
theorem Pg.below {w W W' : World} {s : ByteArray} {j : Nat} {v : Value} {acc : List Pl} (h : Pg w W s j v acc) (hb : Below W.heap.size W W') : Pg w W' s j v acc :=
  ⟨(hb.block _ (lt_of_block h.box)).trans h.box, own_carryF h.row hb, h.bel.trans (hb.mono h.bel.size)⟩
theorem Pg.far {w W : World} {s : ByteArray} {j : Nat} {v : Value} {acc : List Pl} (h : Pg w W s j v acc) : v.ownBlock ≠ some w.heap.size := fun e => by have := (h.row.lt _ e).1; omega
theorem Pg.le {w W : World} {s : ByteArray} {j : Nat} {v : Value} {acc : List Pl} (h : Pg w W s j v acc) : w.heap.size + 1 ≤ W.heap.size := lt_of_block h.box
theorem Pg.setq {w W : World} {s : ByteArray} {j : Nat} {v : Value} {acc : List Pl} (h : Pg w W s j v acc) (Q i : Nat) (u : Value) (hQ : w.heap.size < Q) (hv : v.ownBlock ≠ some Q) : Pg w (W.setCell ⟨Q, i, none⟩ u) s j v acc :=
  ⟨(Below.heap_setCell _ _ _ _ (by simp; omega)).trans h.box, ownsRow_setCell_other h.row (a := ⟨Q, i, none⟩) hv _, h.bel.setCell (by simp; omega) _⟩
theorem Pg.set3 {w W : World} {s : ByteArray} {j : Nat} {v : Value} {acc : List Pl} (h : Pg w W s j v acc) (i : Nat) : Pg w (((W.setCell ⟨w.heap.size, 0, none⟩ (.string s)).setCell ⟨w.heap.size, 1, none⟩ (.int .i64 (i : Int))).setCell ⟨w.heap.size, 2, none⟩ (.bool false)) s i v acc :=
  ⟨box_setG (box_setG (box_setG h.box rfl) rfl) rfl, ownsRow_setCell_other (ownsRow_setCell_other (ownsRow_setCell_other h.row (a := ⟨w.heap.size, 0, none⟩) h.far _) (a := ⟨w.heap.size, 1, none⟩) h.far _) (a := ⟨w.heap.size, 2, none⟩) h.far _, ((h.bel.setCell (by simp) _).setCell (by simp) _).setCell (by simp) _⟩
theorem Pg.app {w W W2 : World} {s : ByteArray} {j : Nat} {v v' : Value} {acc : List Pl} {q : Pl} {o : Obj} (h : Pg w W s j v acc) (ha : Appended5 (w.heap.size + 1) 156 (W.alloc o) W2 v v' (acc.length + 1) (acc.flatMap Pl.cells ++ q.cells)) : Pg w W2 s j v' (acc ++ [q]) := by
  have hg := ha.grown
  have h1 := h.below ((Below.refl _ _).alloc (Nat.le_refl _) o)
  have hle := h1.le
  refine ⟨(hg.block _ (lt_of_block h1.box) (fun e => h.far e.symm)).trans h1.box, ?_, h1.bel.trans ⟨hg.os, hg.tape, hg.output, hg.size, fun k hk => hg.block k (by omega) (fun e => by have := (h.row.lt k e.symm).1; omega)⟩⟩
  have := ha.row
  simpa using this
theorem own_base {w : World} {base base' : Nat} {e : TypeId} {size : Nat} {v : Value} {n : Nat} {xs : List Value} (h : w.ownsRow base e size v n xs) (hb : base' ≤ base) : w.ownsRow base' e size v n xs :=
  ⟨h.1, h.2.imp id fun ⟨g, cap, cur, h1, h2, h3⟩ => ⟨g, cap, cur, h1, Nat.le_trans hb h2, h3⟩⟩
def RParsAns (e : Ending) (w w' : World) (s : ByteArray) : Prop :=
  if 300 < s.size then e = .returned (.tuple #[.slice none 0 0, .int .i64 1, .int .i64 0])
  else match pars s.data.toList with
    | .ok ps _ => ∃ v, e = .returned (.tuple #[v, .int .i64 0, .int .i64 0]) ∧ w'.ownsRow w.heap.size 156 5 v ps.length (ps.flatMap Pl.cells)
    | .fail _ r => e = .returned (.tuple #[.slice none 0 0, .int .i64 2, .int .i64 ((s.size - r.length : Nat) : Int)])
theorem word_dw (l : List UInt8) : rWord (l.dropWhile isBlank) = rWord l := by unfold rWord; rw [dw_dw]
theorem this_dw (x l : List UInt8) : rThis x (l.dropWhile isBlank) = rThis x l := by unfold rThis; rw [word_dw]
theorem rChars_suf (l : List UInt8) : ∀ acc, (rChars acc l).left <:+ l := by
  induction hn : l.length using Nat.strongRecOn generalizing l with
  | _ n ih =>
    intro acc
    cases l with
    | nil => unfold rChars; simp [Ps.left]
    | cons c r =>
      have hl : n = r.length + 1 := by rw [← hn]; rfl
      unfold rChars
      split
      · exact List.suffix_cons _ _
      · split
        · exact List.suffix_refl _
        · split
          · cases r with
            | nil => exact List.nil_suffix
            | cons d r' =>
              simp only
              split
              · exact ((ih r'.length (by simp at hl; omega) r' rfl (acc ++ [d])).trans (List.suffix_cons _ _)).trans (List.suffix_cons _ _)
              · exact List.suffix_cons _ _
          · exact (ih r.length (by omega) r rfl (acc ++ [c])).trans (List.suffix_cons _ _)
theorem rStr_suf (l : List UInt8) : (rStr l).left <:+ l := by
  have h := rMark_suf [34] l
  unfold rStr
  split
  · rename_i e; rw [e] at h; exact (rChars_suf _ _).trans h
  · rename_i e; rw [e] at h; exact h
theorem rMarkStr_suf (m l : List UInt8) : (rMarkStr m l).left <:+ l := by
  have h := rMark_suf m l
  unfold rMarkStr
  split
  · rename_i e; rw [e] at h; exact (rStr_suf _).trans h
  · rename_i e; rw [e] at h; exact h
theorem rNums_suf (l : List UInt8) : (rNums l).left <:+ l := by
  have h := rThis_suf [105, 110] l
  unfold rNums
  split
  · rename_i e; rw [e] at h; exact h
  · rename_i r e
    rw [e] at h
    have h2 := rnum_suf r
    split
    · rename_i e2; rw [e2] at h2; exact h2.trans h
    · rename_i lo r2 e2
      rw [e2] at h2
      have h3 := rMark_suf [46, 46] r2
      split
      · rename_i e3; rw [e3] at h3; exact h3.trans (h2.trans h)
      · rename_i r3 e3
        rw [e3] at h3
        have h4 := rnum_suf r3
        split
        · rename_i e4; rw [e4] at h4; exact h4.trans (h3.trans (h2.trans h))
        · rename_i e4; rw [e4] at h4; exact h4.trans (h3.trans (h2.trans h))
theorem rAsk_suf (nm l : List UInt8) : (rAsk nm l).left <:+ l := by
  cases l with
  | nil => simp [rAsk, Ps.left]
  | cons c r =>
    unfold rAsk
    simp only
    split
    · have h := rMarkStr_suf [61] (c :: r)
      split <;> (rename_i e; rw [e] at h; exact h)
    · split
      · have h := rMarkStr_suf [94, 61] (c :: r)
        split <;> (rename_i e; rw [e] at h; exact h)
      · have h := rNums_suf (c :: r)
        split <;> (rename_i e; rw [e] at h; exact h)
theorem rPred_suf (l : List UInt8) : (rPred l).left <:+ l := by
  unfold rPred
  have hw := rWord_suf l
  cases h1 : rWord l with
  | fail e r1 => rw [h1] at hw; exact hw
  | ok nm r1 =>
    rw [h1] at hw
    simp only
    have hb := rBegin_suf r1
    cases h2 : rBegin r1 with
    | fail e r2 => rw [h2] at hb; exact hb.trans hw
    | ok u r2 =>
      rw [h2] at hb
      exact (rAsk_suf nm r2).trans (hb.trans hw)

theorem fil_fail {n : Nat} {acc : List Pl} {l r : List UInt8} {e : Bool} (h : rPred l = .fail e r) : rFil (n + 1) acc l = .fail e r := by rw [rFil, h]
theorem fil_end {n : Nat} {acc : List Pl} {l r r' : List UInt8} {q : Pl} (h : rPred l = .ok q r) (h2 : rThis [97, 110, 100] r = .fail true r') : rFil (n + 1) acc l = .ok (acc ++ [q]) r' := by rw [rFil, h]; simp only; rw [h2]
theorem fil_bad {n : Nat} {acc : List Pl} {l r r' : List UInt8} {q : Pl} (h : rPred l = .ok q r) (h2 : rThis [97, 110, 100] r = .fail false r') : rFil (n + 1) acc l = .fail false r' := by rw [rFil, h]; simp only; rw [h2]
theorem fil_go {n : Nat} {acc : List Pl} {l r r' : List UInt8} {q : Pl} {u : Unit} (h : rPred l = .ok q r) (h2 : rThis [97, 110, 100] r = .ok u r') : rFil (n + 1) acc l = rFil n (acc ++ [q]) r' := by rw [rFil, h]; simp only; rw [h2]
theorem word_no {l r : List UInt8} {e : Bool} (hb : l.dropWhile isBlank = l) (h0 : l ≠ []) (h : rWord l = .fail e r) : e = false ∧ r = l := by
  unfold rWord at h
  rw [hb] at h
  cases l with
  | nil => exact absurd rfl h0
  | cons c q =>
    simp only at h
    split at h
    · cases h
    · cases h; exact ⟨rfl, rfl⟩

set_option maxRecDepth 100000 in
set_option maxHeartbeats 8000000 in
theorem rparse_any (s : ByteArray) (w : World) (hs : s.size ≤ maxLen) :
    Calls Tryz.prog 50 #[.string s] w fun e w' => RParsAns e w w' s ∧ Below w.heap.size w w' := by
  obtain ⟨i0, hi, hz0, hz1, hz2⟩ := info_parts Tryz.infoRP
  unfold maxLen at hs
  by_cases hl : 300 < s.size
  · have HA : Hid (∀ w', RParsAns (.returned (.tuple #[.slice none 0 0, .int .i64 1, .int .i64 0])) w w' s) := fun w' => by unfold RParsAns; rw [if_pos hl]
    go_enter Tryz.func50, Tryz.ntmps50
    go_wp2
    exact bodyPost_ret (v := .tuple #[.slice none 0 0, .int .i64 1, .int .i64 0]) (by simp [results, Tryz.results50, go_sem]) rfl ⟨HA.out _, Below.refl _ _⟩
  · have hs3 : s.size ≤ 1000 := by omega
    have hl3 : s.size ≤ 300 := by omega
    obtain ⟨RF, hRF⟩ : ∃ RF, RF = pars s.data.toList := ⟨_, rfl⟩
    have HAo : Hid (∀ w' v ps l, RF = .ok ps l → w'.ownsRow w.heap.size 156 5 v ps.length (ps.flatMap Pl.cells) → RParsAns (.returned (.tuple #[v, .int .i64 0, .int .i64 0])) w w' s) := fun w' v ps l h hr => by
      unfold RParsAns; rw [if_neg hl, ← hRF, h]; exact ⟨v, rfl, hr⟩
    have HAf : Hid (∀ w' b r (n : Nat), RF = .fail b r → n = pos s r → RParsAns (.returned (.tuple #[.slice none 0 0, .int .i64 2, .int .i64 (n : Int)])) w w' s) := fun w' b r n h hn => by
      unfold RParsAns; rw [if_neg hl, ← hRF, h, hn]; rfl
    have e0 : dr s 0 = s.data.toList := by simp [dr]
    have HRF : Hid (RF = rFil (s.size + 1 - 0) [] (dr s 0)) := by
      rw [Hid, hRF, e0]; unfold pars; simp
    clear hRF e0
    have HS0 : Hid (∀ W : World, W = w.alloc (.cells #[.string s, .int .i64 ((0 : Nat) : Int), .bool false] 176) → Pg w (W.alloc (.cells #[] 156)) s 0 (.slice (some ⟨W.heap.size, 0, none⟩) 0 0) []) := fun W hW => by
      have hb : Below w.heap.size w W := by rw [hW]; exact (Below.refl _ _).alloc (Nat.le_refl _) _
      have hx : W.heap[w.heap.size]? = some (.cells #[.string s, .int .i64 ((0 : Nat) : Int), .bool false] 176 (0, 0)) := by rw [hW]; exact heap_alloc_new w _
      exact ⟨(Below.heap_alloc _ _ _ (lt_of_block hx)).trans hx, World.ownsRow_made _ #[] 0 (lt_of_block hx) (Nat.zero_le _) rfl, hb.trans (((Below.refl _ _).alloc (Nat.le_refl _) _ : Below W.heap.size W _).mono hb.size)⟩
    go_enter Tryz.func50, Tryz.ntmps50
    go_wp2_with fail
    go_loopg [6, 7] (s.size + 1) (fun kx s6 s7 wr => ∃ (i j m : Nat) (acc : List Pl) (a : Option Addr) (c : Nat), s6 = .slice a m c ∧ s7 = .int .i64 (i : Int) ∧ i ≤ j ∧ j ≤ s.size ∧ m ≤ i ∧ kx = s.size + 1 - i ∧ Hid (m = acc.length ∧ Pg w wr s j (.slice a m c) acc ∧ RF = rFil (s.size + 1 - i) acc (dr s j)))
    case atStart => exact ⟨0, 0, 0, [], _, 0, rfl, rfl, Nat.le_refl _, Nat.zero_le _, Nat.le_refl _, rfl, (⟨rfl, by simpa using HS0.out _ rfl, HRF.out⟩ : _ ∧ _ ∧ _)⟩
    case round =>
      obtain ⟨i, j, m, acc, a, c, rfl, rfl, hij, hj, hmi, rfl, I⟩ := hrel
      obtain ⟨c0, c1, c2, cf, cl⟩ := threeP I.out.2.1.box
      have HPR : Hid _ := fun W => rpred_any s j W hj hs3
      have hile : (i : Int) ≤ (s.size : Int) := by omega
      have hsuf := rPred_suf (dr s j)
      have HSZ : Hid (s.size + 1 - i = (s.size - i) + 1) := (by omega : s.size + 1 - i = (s.size - i) + 1)
      go_wp2_with fail
      refine Calls.mono (HPR.out _) ?_
      rintro e W1 ⟨⟨q, rfl, hq⟩, b1⟩
      have I1 : Hid (Pg w W1 s j (.slice a m c) acc) := I.out.2.1.below b1
      have HFR : Hid (m = acc.length ∧ RF = rFil (s.size + 1 - i) acc (dr s j)) := ⟨I.out.1, I.out.2.2⟩
      have hvl : ∀ B, (Value.slice a m c).ownBlock = some B → B < W1.heap.size := fun B h => (I1.out.row.lt B h).2
      have HVL : Hid _ := hvl
      clear b1 c0 c1 c2 cf cl I hvl
      cases hres : rPred (dr s j) with
      | fail ee r =>
        rw [hres] at hsuf hq
        obtain ⟨n, hn⟩ : ∃ n, n = pos s r := ⟨_, rfl⟩
        have HW : Hid (RF = .fail ee r) := by rw [Hid, HFR.out.2, HSZ.out]; exact fil_fail hres
        have HN : Hid (n = pos s r) := hn
        have el : pos s (Ps.fail (α := Pl) ee r).left = n := hn.symm
        have eb : (Ps.fail (α := Pl) ee r).isBad = true := rfl
        rw [el, eb]
        clear hn el eb hres hq
        go_wp2_with fail
        refine Calls.mono (rblanks_t s n _) ?_
        rintro e W2 ⟨rfl, b2⟩
        have B2 : Hid (Below w.heap.size w W2) := I1.out.bel.trans ((((Below.refl W1.heap.size W1).alloc (Nat.le_refl _) _).alloc (by simp) _).trans (b2.mono (by simp; omega)) |>.mono I1.out.bel.size)
        have z1 : W2.heap[W1.heap.size]? = some (.cells #[.string s, .int .i64 (n : Int), .bool true] 176 (0, 0)) := by
          refine (b2.block _ (by simp; omega)).trans ?_
          exact (alloc2_block W1 _ _).trans (heap_alloc_new W1 _)
        obtain ⟨q0, q1, q2, qf, ql⟩ := threeP z1
        clear b2 z1
        go_wp2_with fail
        go_quiet (fail)
        go_wp2
        refine bodyPost_ret (v := .tuple #[.slice none 0 0, .int .i64 2, .int .i64 (n : Int)]) (by simp [results, Tryz.results50, go_sem]) rfl ⟨HAf.out _ _ _ n HW.out HN.out, ?_⟩
        have hle1 := I1.out.bel.size
        exact (((B2.out.setCell (by simp; omega) _).setCell (by simp; omega) _).setCell (by simp; omega) _).trans ⟨rfl, rfl, rfl, Nat.le_refl _, fun _ _ => rfl⟩
      | ok q' r =>
        have hlen := rPred_len hres
        rw [dr_len] at hlen
        rw [hres] at hsuf hq
        have eqq : q' = q := hq q' r rfl
        subst eqq
        obtain ⟨n1, hn1⟩ : ∃ n1, n1 = pos s r := ⟨_, rfl⟩
        have hd1 : dr s n1 = r := by rw [hn1]; exact dr_posd hsuf
        have hl1 : n1 ≤ s.size := by rw [hn1]; exact pos_le _ _
        have hjn : j < n1 := by rw [hn1]; unfold pos; omega
        have el : pos s (Ps.ok q' r).left = n1 := hn1.symm
        have eb : (Ps.ok q' r).isBad = false := rfl
        rw [el, eb]
        have hn2d := nb_dr s n1
        have hn2l := nb_le s n1
        have HBK : Hid _ := fun W => rblanks_f s n1 W hl1 hs3
        rw [hd1] at hn2d
        generalize nb s n1 = n2 at *
        have HN2 : Hid (dr s n2 = r.dropWhile isBlank) := hn2d
        have HRP : Hid (rPred (dr s j) = .ok q' r) := hres
        have HD1 : Hid (dr s n1 = r ∧ n1 = pos s r) := ⟨hd1, hn1⟩
        clear hd1 hn1 el eb hq hn2d hres hsuf hlen
        have hQl : w.heap.size + 1 ≤ W1.heap.size := I1.out.le
        go_wp2_with fail
        refine Calls.mono (HBK.out _) ?_
        rintro e W2 ⟨rfl, b2⟩
        have I2 : Hid (Pg w W2 s j (.slice a m c) acc) := (I1.out.below (((Below.refl W1.heap.size W1).alloc (Nat.le_refl _) _).alloc (by simp) _)).below b2
        have z1 : W2.heap[W1.heap.size]? = some (.cells #[.string s, .int .i64 (n1 : Int), .bool false] 176 (0, 0)) := by
          refine (b2.block _ (by simp; omega)).trans ?_
          exact (alloc2_block W1 _ _).trans (heap_alloc_new W1 _)
        have z2 : W2.heap[W1.heap.size + 1]? = some (.cells #[.string (ba q'.name), .int .i64 q'.op, .int .i64 q'.lo, .int .i64 q'.hi, .string (ba q'.str)] 156 (0, 0)) := by
          refine (b2.block _ (by simp)).trans ?_
          exact (alloc2_new W1 _ _).trans (heap_alloc_new _ _)
        have HZ : Hid _ := And.intro z1 z2
        obtain ⟨q0, q1, q2, qf, ql⟩ := threeP z1
        obtain ⟨x0, x1, x2, x3, x4, xf, xl⟩ := fiveP z2
        clear b2 z1 z2 I1
        go_upto_region 10 with fail
        obtain ⟨V, hV⟩ : ∃ V, V = ((W2.setCell ⟨W1.heap.size, 0, none⟩ (.string s)).setCell ⟨W1.heap.size, 1, none⟩ (.int .i64 (n2 : Int))).setCell ⟨W1.heap.size, 2, none⟩ (.bool false) := ⟨_, rfl⟩
        rw [← hV]
        have hne : (Value.slice a m c).ownBlock ≠ some W1.heap.size := fun h => by have := HVL.out _ h; omega
        have IV : Hid (Pg w V s j (.slice a m c) acc) := by
          rw [Hid, hV]
          exact ((I2.out.setq _ 0 _ (by omega) hne).setq _ 1 _ (by omega) hne).setq _ 2 _ (by omega) hne
        have ZV : Hid (V.heap[W1.heap.size]? = some (.cells #[.string s, .int .i64 (n2 : Int), .bool false] 176 (0, 0)) ∧ V.heap[W1.heap.size + 1]? = some (.cells #[.string (ba q'.name), .int .i64 q'.op, .int .i64 q'.lo, .int .i64 q'.hi, .string (ba q'.str)] 156 (0, 0))) := by
          rw [Hid, hV]
          refine ⟨box_setG (box_setG (box_setG HZ.out.1 rfl) rfl) rfl, ?_⟩
          exact (Below.heap_setCell _ _ _ _ (by simp)).trans ((Below.heap_setCell _ _ _ _ (by simp)).trans ((Below.heap_setCell _ _ _ _ (by simp)).trans HZ.out.2))
        have HNE : Hid _ := hne
        clear hV HZ I2 q0 q1 q2 qf ql x0 x1 x2 x3 x4 xf xl hne HVL
        generalize W1.heap.size = Q at *
        obtain ⟨q0, q1, q2, qf, ql⟩ := threeP ZV.out.1
        obtain ⟨x0, x1, x2, x3, x4, xf, xl⟩ := fiveP ZV.out.2
        have HROW : Hid (V.ownsRow (w.heap.size + 1) 156 5 (.slice a m c) m (acc.flatMap Pl.cells)) := by
          have := IV.out.row; rw [← HFR.out.1] at this; exact this
        have hVl := IV.out.le
        go_wp2_with (at_builtin; refine wpList_own_append5 _ rfl _ _ 110 110 rfl (w.heap.size + 1) 156 i0 _ 56 Tryz.underlying110 hi hz0 hz1 hz2 rfl _ m (acc.flatMap Pl.cells) rfl (HROW.out.alloc _) _ 1 q'.cells rfl (src_RPl V q' _ rfl) ?c3 ?c4 ?c5 ?_)
        case c3 => unfold maxLen; omega
        case c4 => omega
        case c5 => first | omega | (simp; omega)
        intro v3 W3 ha
        obtain ⟨a3, c3', hv3⟩ := ha.shape
        subst hv3
        have I3 : Hid (Pg w W3 s j (.slice a3 (m + 1) c3') (acc ++ [q'])) := IV.out.app (by rw [← HFR.out.1]; exact ha)
        have ZQ : Hid (W3.heap[Q]? = some (.cells #[.string s, .int .i64 (n2 : Int), .bool false] 176 (0, 0))) := by
          have hzA := (Below.heap_alloc V (.cells #[.string (ba q'.name), .int .i64 q'.op, .int .i64 q'.lo, .int .i64 q'.hi, .string (ba q'.str)] 156) Q (lt_of_block ZV.out.1)).trans ZV.out.1
          exact (ha.grown.block Q (lt_of_block hzA) (fun e => HNE.out e.symm)).trans hzA
        clear ha q0 q1 q2 qf ql x0 x1 x2 x3 x4 xf xl HROW IV ZV HNE
        obtain ⟨q0, q1, q2, qf, ql⟩ := threeP ZQ.out
        by_cases hend : n2 = s.size
        · have HE : Hid (RF = .ok (acc ++ [q']) []) := by
            rw [Hid, HFR.out.2, HSZ.out]
            refine fil_end HRP.out ?_
            rw [← this_dw, ← HN2.out, hend, dr_end s s.size (Nat.le_refl _)]
            rfl
          have HRW : Hid (W3.ownsRow w.heap.size 156 5 (.slice a3 (m + 1) c3') (acc ++ [q']).length ((acc ++ [q']).flatMap Pl.cells)) := own_base I3.out.row (Nat.le_succ _)
          subst hend
          go_wp2
          exact bodyPost_ret (v := .tuple #[.slice a3 (m + 1) c3', .int .i64 0, .int .i64 0]) (by simp [results, Tryz.results50, go_sem]) rfl ⟨HAo.out _ _ _ _ HE.out HRW.out, I3.out.bel⟩
        · have hn2s : n2 < s.size := by omega
          have he1 : ((n2 : Int) == (s.size : Int)) = false := by simp; omega
          have he2 : ¬ (n2 : Int) = (s.size : Int) := by omega
          have hwsuf := rWord_suf (dr s n2)
          have HWD : Hid _ := fun W => rword_any s n2 false W hn2l hs3
          have HTH : Hid (rThis [97, 110, 100] r = rThis [97, 110, 100] (dr s n2)) := by rw [Hid, HN2.out, this_dw]
          have HDD : Hid ((dr s n2).dropWhile isBlank = dr s n2) := by rw [Hid, HN2.out, dw_dw]
          obtain ⟨k3, b3, wd, hm3⟩ : ∃ k3 b3 wd, wAft s n2 false = (k3, b3, wd) := ⟨_, _, _, rfl⟩
          rw [hm3] at HWD
          go_wp2_with fail
          refine Calls.mono (HWD.out _) ?_
          rintro e W4 ⟨rfl, b4⟩
          have I4 : Hid (Pg w W4 s j (.slice a3 (m + 1) c3') (acc ++ [q'])) := I3.out.below b4
          have ZQ4 : Hid _ := (b4.block _ (lt_of_block ZQ.out)).trans ZQ.out
          clear b4 q0 q1 q2 qf ql I3 ZQ HWD
          obtain ⟨q0, q1, q2, qf, ql⟩ := threeP ZQ4.out
          have HBE : Hid (Below w.heap.size w W4) := I4.out.bel
          have hway : (Hid (RF = .fail false (dr s n2)) ∧ (b3 = true ∨ (b3 = false ∧ wd.toList ≠ [97, 110, 100]))) ∨ (∃ r3, b3 = false ∧ wd = ⟨#[97, 110, 100]⟩ ∧ Hid (k3 = pos s r3 ∧ r3 <:+ dr s n2 ∧ RF = rFil (s.size - i) (acc ++ [q']) r3)) := by
            cases hw : rWord (dr s n2) with
            | fail e' r' =>
              obtain ⟨rfl, rfl⟩ := word_no HDD.out (by rw [dr_cons s n2 hn2s]; simp) hw
              have e3 : wAft s n2 false = (pos s (dr s n2), true, ⟨#[]⟩) := by unfold wAft; simp [hw, Ps.isBad, Ps.left, wdV]
              rw [e3] at hm3
              simp at hm3
              refine Or.inl ⟨?_, Or.inl hm3.2.1⟩
              rw [Hid, HFR.out.2, HSZ.out]
              refine fil_bad HRP.out ?_
              rw [HTH.out]; unfold rThis; rw [hw]
            | ok v r3 =>
              rw [hw] at hwsuf
              have e3 : wAft s n2 false = (pos s r3, false, ba v) := by unfold wAft; simp [hw, Ps.isBad, Ps.left, wdV]
              rw [e3] at hm3
              simp at hm3
              obtain ⟨u1, u2, u3⟩ := hm3
              by_cases hv : v = [97, 110, 100]
              · refine Or.inr ⟨r3, u2, ?_, u1.symm, hwsuf, ?_⟩
                · rw [← u3, hv]; rfl
                · rw [HFR.out.2, HSZ.out]
                  refine fil_go (u := ()) HRP.out ?_
                  rw [HTH.out]; unfold rThis; rw [hw]; simp [hv]
              · refine Or.inl ⟨?_, Or.inr ⟨u2, ?_⟩⟩
                · rw [Hid, HFR.out.2, HSZ.out]
                  refine fil_bad HRP.out ?_
                  rw [HTH.out]; unfold rThis; rw [hw]; simp only; rw [if_neg hv]
                  have := word_app hw
                  rw [HDD.out] at this
                  rw [this]
                · rw [← u3, ba_tl]; exact hv
          clear hm3 hwsuf
          rcases hway with ⟨HE, hb⟩ | ⟨r3, rfl, rfl, HG⟩
          · have HA2 : Hid _ := fun w' => HAf.out w' _ _ n2 HE.out (pos_dr hn2l).symm
            rcases hb with rfl | ⟨rfl, hw⟩
            · go_wp2_with fail
              go_quiet (fail)
              go_wp2
              refine bodyPost_ret (v := .tuple #[.slice none 0 0, .int .i64 2, .int .i64 (n2 : Int)]) (by simp [results, Tryz.results50, go_sem]) rfl ⟨HA2.out _, ?_⟩
              have hls := HBE.out.size
              exact (HBE.out.alloc (by omega) _).trans ⟨rfl, rfl, rfl, Nat.le_refl _, fun _ _ => rfl⟩
            · have hw2 : (wd.toList == [97, 110, 100]) = false := by simpa using hw
              go_wp2_with fail
              go_quiet (fail)
              go_wp2
              refine bodyPost_ret (v := .tuple #[.slice none 0 0, .int .i64 2, .int .i64 (n2 : Int)]) (by simp [results, Tryz.results50, go_sem]) rfl ⟨HA2.out _, ?_⟩
              have hls := HBE.out.size
              exact (HBE.out.alloc (by omega) _).trans ⟨rfl, rfl, rfl, Nat.le_refl _, fun _ _ => rfl⟩
          · obtain ⟨c0, c1, c2, cf, cl⟩ := threeP I4.out.box
            have hk3 : k3 ≤ s.size ∧ i + 1 ≤ k3 := by
              obtain ⟨u1, u2, _⟩ := HG.out
              have h1 := u2.length_le
              rw [HN2.out] at h1
              have h2 := (List.dropWhile_suffix (p := isBlank) (l := r)).length_le
              have h3 := HD1.out.2
              have h4 := u2.length_le
              rw [dr_len] at h4
              unfold pos at u1 h3
              omega
            obtain ⟨hk3s, hik⟩ := hk3
            have hdk : dr s k3 = dr s k3 := rfl
            have I5 : Hid (Pg w ((((W4.setCell ⟨w.heap.size, 0, none⟩ (.string s)).setCell ⟨w.heap.size, 1, none⟩ (.int .i64 (k3 : Int))).setCell ⟨w.heap.size, 2, none⟩ (.bool false)).alloc (.cells #[.string s, .int .i64 (k3 : Int), .bool false] 176)) s k3 (.slice a3 (m + 1) c3') (acc ++ [q'])) := (I4.out.set3 k3).below ((Below.refl _ _).alloc (Nat.le_refl _) _)
            have HRF2 : Hid (RF = rFil (s.size + 1 - (i + 1)) (acc ++ [q']) (dr s k3)) := by
              obtain ⟨u1, u2, u3⟩ := HG.out
              rw [Hid, u1, dr_posd u2, u3, show s.size + 1 - (i + 1) = s.size - i by omega]
            clear hdk
            go_wp2
            go_roundg (s.size + 1 - (i + 1))
            case measure => omega
            case rel => exact ⟨i + 1, k3, m + 1, acc ++ [q'], a3, c3', rfl, by go_num, hik, hk3s, by omega, rfl, (⟨by rw [HFR.out.1]; simp, I5.out, HRF2.out⟩ : _ ∧ _ ∧ _)⟩
end Go.Proofs.YtpepbhmdfjpblaaGreatDoor

/- What is read can be printed. No program in sight. -/
namespace Go.Proofs.YtpepbhmdfjpblaaGreatDoor
open Go.RowKit
set_option linter.unusedVariables false

theorem len_dec (u : Nat) (h : (Lib.decDigits u).length ≤ 10) : u ≤ 9999999999 := by
  rw [Lib.decDigits_length] at h
  have key : ∀ k u, Lib.nDigits u ≤ k → u < 10 ^ k := by
    intro k
    induction k with
    | zero => intro u h1; unfold Lib.nDigits at h1; split at h1 <;> omega
    | succ k ih =>
      intro u h1
      unfold Lib.nDigits at h1
      rw [Nat.pow_succ]
      split at h1
      · have : 0 < 10 ^ k := Nat.pow_pos (by omega)
        omega
      · have := ih (u / 10) (by omega)
        omega
  have := key 10 u h
  have e : (10 : Nat) ^ 10 = 10000000000 := by decide
  omega
theorem nSign_len (l : List UInt8) : (nSign l = []) ∨ ∃ c, nSign l = [c] ∧ c.toNat = 45 := by
  cases l with
  | nil => exact Or.inl rfl
  | cons c r =>
    unfold nSign
    simp only
    split
    · exact Or.inr ⟨c, rfl, by assumption⟩
    · exact Or.inl rfl
theorem num_rng {l r : List UInt8} {v : Int} (h : rNumber l = .ok v r) : -9999999999 ≤ v ∧ v ≤ 9999999999 := by
  unfold rNumber at h
  split at h
  · cases h
  · rename_i c q _
    split at h
    · rename_i v' _
      split at h
      · rename_i hc
        cases h
        obtain ⟨h1, h2⟩ := hc
        by_cases hneg : v < 0
        · obtain ⟨u, rfl⟩ : ∃ u : Nat, v = -(u : Int) := ⟨v.natAbs, by omega⟩
          rw [Lib.itoa_neg u (by omega)] at h2
          have h3 := congrArg List.length h2
          rw [List.length_append] at h3
          have h4 : (nSign (c :: q)).length ≤ 1 := by rcases nSign_len (c :: q) with e | ⟨d, e, _⟩ <;> rw [e] <;> simp
          have h5 := len_dec u (by simp at h3; omega)
          omega
        · obtain ⟨u, rfl⟩ : ∃ u : Nat, v = (u : Int) := ⟨v.toNat, by omega⟩
          rw [Lib.itoa_nonneg] at h2
          rcases nSign_len (c :: q) with e | ⟨d, e, hd⟩
          · rw [e, List.nil_append] at h2
            have h5 := len_dec u (by rw [h2]; exact h1)
            omega
          · obtain ⟨c', r', e', hc1, _⟩ := decD_head u
            rw [e, e'] at h2
            simp at h2
            have := h2.1
            subst this
            omega
      · cases h
    · cases h
theorem chars_pr (l : List UInt8) : ∀ (acc t r : List UInt8), rChars acc l = .ok t r → (∀ c ∈ acc, 32 ≤ c.toNat ∧ c.toNat ≤ 126) → (∀ c ∈ t, 32 ≤ c.toNat ∧ c.toNat ≤ 126) ∧ t.length ≤ acc.length + l.length := by
  induction hn : l.length using Nat.strongRecOn generalizing l with
  | _ n ih =>
    intro acc t r' h ha
    cases l with
    | nil => unfold rChars at h; cases h
    | cons c r =>
      have hl : n = r.length + 1 := by rw [← hn]; rfl
      unfold rChars at h
      split at h
      · cases h; exact ⟨ha, by omega⟩
      · split at h
        · cases h
        · rename_i hc
          split at h
          · cases r with
            | nil => cases h
            | cons d r2 =>
              simp only at h
              split at h
              · rename_i hd
                have hd' : 32 ≤ d.toNat ∧ d.toNat ≤ 126 := by unfold isSign at hd; simp at hd; omega
                have := ih r2.length (by simp at hl; omega) r2 rfl (acc ++ [d]) t r' h (fun x hx => by
                  rcases List.mem_append.1 hx with hx | hx
                  · exact ha x hx
                  · simp at hx; subst hx; exact hd')
                refine ⟨this.1, ?_⟩
                have h2 := this.2
                simp at h2 hl
                omega
              · cases h
          · have := ih r.length (by omega) r rfl (acc ++ [c]) t r' h (fun x hx => by
              rcases List.mem_append.1 hx with hx | hx
              · exact ha x hx
              · simp at hx; subst hx; omega)
            refine ⟨this.1, ?_⟩
            have h2 := this.2
            simp at h2
            omega
theorem str_pr {l t r : List UInt8} (h : rStr l = .ok t r) : (∀ c ∈ t, 32 ≤ c.toNat ∧ c.toNat ≤ 126) ∧ t.length ≤ l.length := by
  have hs := rMark_suf [34] l
  unfold rStr at h
  split at h
  · rename_i e
    rw [e] at hs
    have h1 := chars_pr _ [] t r h (by simp)
    have h2 := hs.length_le
    refine ⟨h1.1, ?_⟩
    have h3 := h1.2
    simp [Ps.left] at h2 h3
    omega
  · cases h
theorem mstr_pr {m l t r : List UInt8} (h : rMarkStr m l = .ok t r) : (∀ c ∈ t, 32 ≤ c.toNat ∧ c.toNat ≤ 126) ∧ t.length ≤ l.length := by
  have hs := rMark_suf m l
  unfold rMarkStr at h
  split at h
  · rename_i e
    rw [e] at hs
    have h1 := str_pr h
    have h2 := hs.length_le
    exact ⟨h1.1, Nat.le_trans h1.2 h2⟩
  · cases h
theorem nums_rng {l r : List UInt8} {v : Int × Int} (h : rNums l = .ok v r) : -9999999999 ≤ v.1 ∧ v.1 ≤ 9999999999 ∧ -9999999999 ≤ v.2 ∧ v.2 ≤ 9999999999 := by
  unfold rNums at h
  split at h
  · cases h
  · split at h
    · cases h
    · rename_i e1
      split at h
      · cases h
      · split at h
        · cases h
        · rename_i e2
          cases h
          have h1 := num_rng e1
          have h2 := num_rng e2
          exact ⟨h1.1, h1.2, h2.1, h2.2⟩
theorem mem_tw : ∀ (l : List UInt8) (x : UInt8), x ∈ l.takeWhile alnum → alnum x = true
  | [], x, h => by simp at h
  | c :: r, x, h => by
    cases hc : alnum c with
    | false => rw [List.takeWhile_cons_of_neg (by rw [hc]; simp)] at h; simp at h
    | true =>
      rw [List.takeWhile_cons_of_pos hc] at h
      rcases List.mem_cons.1 h with h | h
      · rw [h]; exact hc
      · exact mem_tw r x h
theorem word_nm {l nm r : List UInt8} (h : rWord l = .ok nm r) : (∃ c q, nm = c :: q ∧ isLetter c = true) ∧ (∀ c ∈ nm, alnum c = true) ∧ nm.length ≤ l.length := by
  have hd : (l.dropWhile isBlank).length ≤ l.length := (List.dropWhile_suffix _).length_le
  unfold rWord at h
  split at h
  · cases h
  · rename_i c q e
    rw [e] at hd
    split at h
    · rename_i hc
      cases h
      have ha : alnum c = true := by unfold alnum; rw [hc]; rfl
      refine ⟨⟨c, q.takeWhile alnum, by simp [List.takeWhile, ha], hc⟩, fun x hx => mem_tw _ x hx, ?_⟩
      exact Nat.le_trans (List.takeWhile_prefix alnum).length_le hd
    · cases h
theorem ask_prn {nm l r : List UInt8} {q : Pl} (h : rAsk nm l = .ok q r) (hl : l.length ≤ 1000) (n0 : ∃ c q, nm = c :: q ∧ isLetter c = true) (n1 : ∀ c ∈ nm, alnum c = true) (n2 : nm.length ≤ 1000) : PrnL q := by
  cases l with
  | nil => unfold rAsk at h; cases h
  | cons c r0 =>
    unfold rAsk at h
    simp only at h
    split at h
    · split at h
      · rename_i e
        cases h
        have h1 := mstr_pr e
        exact ⟨⟨n0, n1, Or.inr ⟨Or.inl rfl, rfl, rfl, h1.1⟩⟩, n2, Nat.le_trans h1.2 hl⟩
      · cases h
    · split at h
      · split at h
        · rename_i e
          cases h
          have h1 := mstr_pr e
          exact ⟨⟨n0, n1, Or.inr ⟨Or.inr rfl, rfl, rfl, h1.1⟩⟩, n2, Nat.le_trans h1.2 hl⟩
        · cases h
      · split at h
        · rename_i e
          cases h
          have h1 := nums_rng e
          exact ⟨⟨n0, n1, Or.inl ⟨rfl, h1.1, h1.2.1, h1.2.2.1, h1.2.2.2, rfl⟩⟩, n2, by simp⟩
        · cases h
theorem pred_prn {l r : List UInt8} {q : Pl} (h : rPred l = .ok q r) (hl : l.length ≤ 1000) : PrnL q := by
  have hw := rWord_suf l
  unfold rPred at h
  split at h
  · cases h
  · rename_i nm r1 e1
    rw [e1] at hw
    have hb := rBegin_suf r1
    split at h
    · cases h
    · rename_i u r2 e2
      rw [e2] at hb
      have h1 := word_nm e1
      exact ask_prn h (Nat.le_trans (hb.trans hw).length_le hl) h1.1 h1.2.1 (Nat.le_trans h1.2.2 hl)
theorem fil_prn : ∀ (n : Nat) (acc : List Pl) (l r : List UInt8) (ps : List Pl), rFil n acc l = .ok ps r → l.length ≤ 1000 → (∀ p ∈ acc, PrnL p) → ∀ p ∈ ps, PrnL p := by
  intro n
  induction n with
  | zero => intro acc l r ps h; unfold rFil at h; cases h
  | succ n ih =>
    intro acc l r ps h hl ha
    unfold rFil at h
    have hs := rPred_suf l
    split at h
    · cases h
    · rename_i q r1 e1
      rw [e1] at hs
      have hq := pred_prn e1 hl
      have ha' : ∀ p ∈ acc ++ [q], PrnL p := fun p hp => by
        rcases List.mem_append.1 hp with hp | hp
        · exact ha p hp
        · simp at hp; subst hp; exact hq
      have ht := rThis_suf [97, 110, 100] r1
      split at h
      · cases h; exact ha'
      · cases h
      · rename_i u r2 e2
        rw [e2] at ht
        exact ih _ _ _ _ h (Nat.le_trans (ht.trans hs).length_le hl) ha'
theorem pars_prn {l r : List UInt8} {ps : List Pl} (h : pars l = .ok ps r) (hl : l.length ≤ 1000) : ∀ p ∈ ps, PrnL p :=
  fil_prn _ _ _ _ _ h hl (by simp)
end Go.Proofs.YtpepbhmdfjpblaaGreatDoor

/- Predicates as the reader's and as the schema's; filter.Read of what was printed. -/
namespace Go.Proofs.YtpepbhmdfjpblaaGreatDoor
open Go.ChangeShapes Go.WideShapes Go.ChangeAt Go.RowKit
set_option linter.unusedVariables false

theorem ba_of (s : ByteArray) : ba s.data.toList = s := by cases s; simp [ba]
def plOf (p : Pd) : Pl := ⟨p.name.data.toList, p.op, p.lo, p.hi, p.str.data.toList⟩
def pdOf (q : Pl) : Pd := ⟨ba q.name, q.op, q.lo, q.hi, ba q.str⟩
theorem pdOf_plOf (p : Pd) : pdOf (plOf p) = p := by cases p; simp [pdOf, plOf, ba_of]
theorem map_back (ps : List Pd) : (ps.map plOf).map pdOf = ps := by
  rw [List.map_map]
  have : pdOf ∘ plOf = id := by funext p; exact pdOf_plOf p
  rw [this, List.map_id]
theorem plOf_getD (ps : List Pd) (i : Nat) (hi : i < ps.length) : (ps.map plOf).getD i pl0 = plOf (ps.getD i pd0) := by simp [hi]
theorem pdOf_getD (qs : List Pl) (i : Nat) (hi : i < qs.length) : (qs.map pdOf).getD i pd0 = pdOf (qs.getD i pl0) := by simp [hi]
theorem PlIn.ofPd {w : World} {v : Value} {ps : List Pd} (h : PdIn w v ps) : PlIn w v (ps.map plOf) := by
  obtain ⟨a, c, hv, hh⟩ := h.shape
  refine ⟨a, c, by rw [List.length_map]; exact hv, fun hp => ?_⟩
  rw [List.length_map] at hp
  obtain ⟨g, ha, hg, hc, hj⟩ := hh hp
  refine ⟨g, ha, hg, by rw [List.length_map]; exact hc, fun i hi j hj5 => ?_⟩
  rw [List.length_map] at hi
  rw [plOf_getD ps i hi]
  obtain ⟨k0, k1, k2, k3, k4⟩ := hj i hi
  generalize ps.getD i pd0 = x at *
  rcases (show j = 0 ∨ j = 1 ∨ j = 2 ∨ j = 3 ∨ j = 4 by omega) with rfl | rfl | rfl | rfl | rfl
  · show _ = some (Value.string (ba x.name.data.toList)); rw [ba_of]; exact k0
  · exact k1
  · exact k2
  · exact k3
  · show _ = some (Value.string (ba x.str.data.toList)); rw [ba_of]; exact k4
theorem PdIn.ofPl {w : World} {v : Value} {qs : List Pl} (h : PlIn w v qs) : PdIn w v (qs.map pdOf) := by
  obtain ⟨a, c, hv, hh⟩ := h.shape
  refine ⟨a, c, by rw [List.length_map]; exact hv, fun hp => ?_⟩
  rw [List.length_map] at hp
  obtain ⟨g, ha, hg, hc, hj⟩ := hh hp
  refine ⟨g, ha, hg, by rw [List.length_map]; exact hc, fun i hi => ?_⟩
  rw [List.length_map] at hi
  rw [pdOf_getD qs i hi]
  have q := fun j hj5 => hj i hi j hj5
  exact ⟨q 0 (by omega), q 1 (by omega), q 2 (by omega), q 3 (by omega), q 4 (by omega)⟩
theorem letter_of {c : UInt8} (h : letterP c) : isLetter c = true := by unfold letterP at h; unfold isLetter; simp; omega
theorem digit_of {c : UInt8} (h : digitP c) : isDigit c = true := by unfold digitP at h; unfold isDigit; simp; omega
theorem name_bytes {s : ByteArray} (h : NameOk s) : (∃ c r, s.data.toList = c :: r ∧ isLetter c = true) ∧ (∀ c ∈ s.data.toList, alnum c = true) ∧ s.data.toList.length ≤ 12 := by
  have hlo := h.lo
  have hhi := h.hi
  refine ⟨?_, fun c hc => ?_, by simpa using hhi⟩
  · have e := dr_cons s 0 (by omega)
    have e0 : dr s 0 = s.data.toList := by simp [dr]
    rw [e0] at e
    refine ⟨_, _, e, ?_⟩
    rcases h.ch 0 (by omega) with h1 | h1
    · exact letter_of h1
    · exact absurd rfl h1.1
  · obtain ⟨i, hi, rfl⟩ := List.getElem_of_mem hc
    have hi' : i < s.size := by simpa using hi
    have e : s.data.toList[i] = s[i] := rfl
    rw [e]
    unfold alnum
    rcases h.ch i hi' with h1 | h1
    · rw [letter_of h1]; rfl
    · rw [digit_of h1.2]; simp
theorem strok_bytes {s : ByteArray} (h : StrOk s) : (∀ c ∈ s.data.toList, 32 ≤ c.toNat ∧ c.toNat ≤ 126) ∧ s.data.toList.length ≤ 40 := by
  refine ⟨fun c hc => ?_, by have := h.le; simpa using this⟩
  obtain ⟨i, hi, rfl⟩ := List.getElem_of_mem hc
  have h1 := h.ch i (by simpa using hi)
  have e : s.data.toList[i] = s[i]'(by simpa using hi) := rfl
  rw [e]; omega
/-- What is a schema's filter can be printed. -/
theorem prn_of {az : List At} {ps : List Pd} (hS : SchemaOk az) (hF : FilterOk az ps) : ∀ q ∈ ps.map plOf, PrnL q := by
  intro q hq
  obtain ⟨p, hp, rfl⟩ := List.mem_map.1 hq
  obtain ⟨i, hi, rfl⟩ := List.getElem_of_mem hp
  have e : ps.getD i pd0 = ps[i] := by simp [hi]
  obtain ⟨_, k, hk, hok⟩ := hF.2.2 i hi
  rw [e] at hk hok
  obtain ⟨hkl, hkn, _⟩ := hk
  obtain ⟨hN, hkind⟩ := (hS.2.2 k hkl).1
  rw [hkn] at hN
  obtain ⟨b1, b2, b3⟩ := name_bytes hN
  generalize ps[i] = x at *
  rcases hok with ⟨ho, hka, h1, h2, h3, h4⟩ | ⟨ho, hka, h1, h2, h3⟩
  · have hb : -2147483648 ≤ (az.getD k at0).mn ∧ (az.getD k at0).mx ≤ 2147483648 := by
      rcases hkind with hh | hh
      · exact ⟨hh.2.1, hh.2.2.2⟩
      · omega
    have hs0 : (plOf x).str = [] := by show x.str.data.toList = []; rw [h4]; rfl
    exact ⟨⟨b1, b2, Or.inl ⟨ho, by show _ ≤ x.lo; omega, by show x.lo ≤ _; omega, by show _ ≤ x.hi; omega, by show x.hi ≤ _; omega, hs0⟩⟩, Nat.le_trans b3 (by omega), by rw [hs0]; simp⟩
  · obtain ⟨c1, c2⟩ := strok_bytes h1
    exact ⟨⟨b1, b2, Or.inr ⟨by rcases ho with h | h; exact Or.inl h; exact Or.inr h.1, h2, h3, c1⟩⟩, Nat.le_trans b3 (by omega), Nat.le_trans c2 (by omega)⟩

set_option maxRecDepth 100000 in
set_option maxHeartbeats 1000000 in
theorem read_back (v : Value) (az : List At) (ps : List Pd) (W : World) (E : Env W) (hA : AtIn W v az) (hS : SchemaOk az) (hF : FilterOk az ps) (ht : (ba (pF (ps.map plOf))).size ≤ 300) :
    Calls Tryz.prog 42 #[v, .string (ba (pF (ps.map plOf)))] W fun e w' => ∃ u, e = .returned (.tuple #[u, .nilIface]) ∧ PlIn w' u (ps.map plOf) ∧ Below W.heap.size W w' := by
  have hne : ps.map plOf ≠ [] := by
    intro e
    have := hF.1
    have h0 : (ps.map plOf).length = 0 := by rw [e]; rfl
    rw [List.length_map] at h0
    omega
  have HPB : Hid (pars (ba (pF (ps.map plOf))).data.toList = .ok (ps.map plOf) []) := by
    rw [Hid, ba_list]
    exact pars_back _ (fun p hp => (prn_of hS hF p hp).prn) hne
  have HPA : Hid _ := parse_any (ba (pF (ps.map plOf))) W E (by unfold maxLen; omega)
  have HH : Hid (AtIn W v az ∧ FilterOk az ps ∧ az.length ≤ 1000 ∧ ps.length ≤ 1000) := ⟨hA, hF, by have := hS.2.1; omega, by have := hF.2.1; omega⟩
  have HST : Hid (∀ i, i < ps.length → (ps.getD i pd0).str.size ≤ maxLen) := fun i hi => by
    have hp := prn_of hS hF (plOf (ps.getD i pd0)) (by
      have e : ps.getD i pd0 = ps[i] := by simp [hi]
      rw [e]
      exact List.mem_map.2 ⟨_, List.getElem_mem hi, rfl⟩)
    have hl := hp.sl
    have e2 : (plOf (ps.getD i pd0)).str.length = (ps.getD i pd0).str.size := by show (ps.getD i pd0).str.data.toList.length = _; simp
    rw [e2] at hl
    unfold maxLen; omega
  have hsz := ht
  clear hA hS hF ht E hne
  generalize ba (pF (ps.map plOf)) = t at *
  go_enter Tryz.func42, Tryz.ntmps42
  go_wp2_with fail
  refine Calls.mono HPA.out ?_
  rintro e W1 ⟨hAn, b1⟩
  obtain ⟨u, rfl, hrow⟩ := hAn.ok (by omega) HPB.out
  have HP1 : Hid (PlIn W1 u (ps.map plOf) ∧ Below W.heap.size W W1) := ⟨PlIn.ofOwn hrow, b1⟩
  clear hAn hrow b1 HPA
  go_wp2_with fail
  have hfa := filter_any v u az ps W1 (HH.out.1.below HP1.out.2) (by have := PdIn.ofPl HP1.out.1; rw [map_back] at this; exact this) HH.out.2.2.1 HH.out.2.2.2 HST.out
  refine Calls.mono hfa ?_
  rintro e W2 ⟨hE, b2⟩
  have := hE.t HH.out.2.1
  subst this
  have HP2 : Hid (PlIn W2 u (ps.map plOf) ∧ Below W.heap.size W W2) := ⟨HP1.out.1.below b2, HP1.out.2.trans (b2.mono HP1.out.2.size)⟩
  clear hE b2 hfa HP1
  go_wp2
  go_ret2
  exact ⟨u, rfl, HP2.out.1, HP2.out.2⟩
end Go.Proofs.YtpepbhmdfjpblaaGreatDoor

/- filter.Read of any text, and the document's reader beside it; wigwagref06.Bytes. -/
namespace Go.Proofs.YtpepbhmdfjpblaaGreatDoor
open Go.ChangeShapes Go.WideShapes Go.ChangeAt Go.RowKit
set_option linter.unusedVariables false

theorem plin_nil (w : World) (c : Nat) : PlIn w (.slice none 0 0) [] := ⟨none, 0, rfl, fun h => by simp at h⟩
/-- What the two readers answer of one text; what they read can be printed. -/
def TwoQ (s : ByteArray) (ps : List Pl) (cd pl : Int) : Prop :=
    (∀ W, Env W → Calls Tryz.prog 66 #[.string s] W fun e w' => ∃ v er, e = .returned (.tuple #[v, er]) ∧ PlIn w' v ps ∧ ((er = .nilIface ∧ cd = 0) ∨ (¬ cd = 0 ∧ ∃ N, er = .iface 170 (.pointer (some ⟨N, 0, none⟩)) ∧ FaultAt w' N pl cd)) ∧ Below W.heap.size W w') ∧
    (∀ W, Calls Tryz.prog 50 #[.string s] W fun e w' => ∃ v, e = .returned (.tuple #[v, .int .i64 cd, .int .i64 pl]) ∧ PlIn w' v ps ∧ Below W.heap.size W w')
theorem two_q (s : ByteArray) (hs : s.size ≤ 1000) : ∃ (ps : List Pl) (cd pl : Int), ps.length ≤ 1000 ∧ (∀ p ∈ ps, PrnL p) ∧ TwoQ s ps cd pl := by
  have hm : s.size ≤ maxLen := by unfold maxLen; omega
  have hsl : s.data.toList.length ≤ 1000 := by simpa using hs
  by_cases hl : 300 < s.size
  · refine ⟨[], 1, 0, by simp, by simp, fun W E => ?_, fun W => ?_⟩
    · refine (parse_any s W E hm).mono ?_
      rintro e w' ⟨hA, hb⟩
      unfold ParsAns at hA
      rw [if_pos hl] at hA
      obtain ⟨N, rfl, hF⟩ := hA
      exact ⟨_, _, rfl, plin_nil _ 0, Or.inr ⟨by omega, N, rfl, hF⟩, hb⟩
    · refine (rparse_any s W hm).mono ?_
      rintro e w' ⟨hA, hb⟩
      unfold RParsAns at hA
      rw [if_pos hl] at hA
      exact ⟨_, hA, plin_nil _ 0, hb⟩
  · cases hp : pars s.data.toList with
    | fail b r =>
      refine ⟨[], 2, ((s.size - r.length : Nat) : Int), by simp, by simp, fun W E => ?_, fun W => ?_⟩
      · refine (parse_any s W E hm).mono ?_
        rintro e w' ⟨hA, hb⟩
        obtain ⟨N, rfl, hF⟩ := hA.fail hl hp
        exact ⟨_, _, rfl, plin_nil _ 0, Or.inr ⟨by omega, N, rfl, hF⟩, hb⟩
      · refine (rparse_any s W hm).mono ?_
        rintro e w' ⟨hA, hb⟩
        unfold RParsAns at hA
        rw [if_neg hl, hp] at hA
        exact ⟨_, hA, plin_nil _ 0, hb⟩
    | ok ps r =>
      have hn : ps.length ≤ 1000 := by
        have h1 : ∀ n acc l qs r, rFil n acc l = .ok qs r → qs.length ≤ acc.length + n := by
          intro n
          induction n with
          | zero => intro acc l qs r h; unfold rFil at h; cases h
          | succ n ih =>
            intro acc l qs r h
            unfold rFil at h
            split at h
            · cases h
            · split at h
              · cases h; simp
              · cases h
              · have := ih _ _ _ _ h; simp at this; omega
        have h2 := h1 _ _ _ _ _ (show rFil (s.data.toList.length + 1) [] s.data.toList = .ok ps r from hp)
        simp at h2; omega
      refine ⟨ps, 0, 0, hn, pars_prn hp hsl, fun W E => ?_, fun W => ?_⟩
      · refine (parse_any s W E hm).mono ?_
        rintro e w' ⟨hA, hb⟩
        obtain ⟨v, rfl, hrow⟩ := hA.ok hl hp
        exact ⟨_, _, rfl, PlIn.ofOwn hrow, Or.inl ⟨rfl, rfl⟩, hb⟩
      · refine (rparse_any s W hm).mono ?_
        rintro e w' ⟨hA, hb⟩
        unfold RParsAns at hA
        rw [if_neg hl, hp] at hA
        obtain ⟨v, rfl, hrow⟩ := hA
        exact ⟨_, rfl, PlIn.ofOwn hrow, hb⟩
theorem pl_str {ps : List Pl} (hp : ∀ p ∈ ps, PrnL p) : ∀ i, i < (ps.map pdOf).length → ((ps.map pdOf).getD i pd0).str.size ≤ maxLen := fun i hi => by
  rw [List.length_map] at hi
  rw [pdOf_getD ps i hi]
  have e : ps.getD i pl0 = ps[i] := by simp [hi]
  have h := (hp _ (List.getElem_mem hi)).sl
  rw [e]
  show (ba ps[i].str).size ≤ maxLen
  rw [ba_size]; unfold maxLen; omega
/-- A fault of filter's around a fault of value's. -/
def FaultIn (w : World) (N : Nat) : Prop :=
  ∃ (M : Nat) (a b : Int), w.heap[N]? = some (.cells #[.string ⟨#[102, 105, 108, 116, 101, 114]⟩, .int .i64 a, .iface 170 (.pointer (some ⟨M, 0, none⟩))] 172 (0, 0)) ∧
    w.heap[M]? = some (.cells #[.string ⟨#[118, 97, 108, 117, 101]⟩, .int .i64 b, .iface 36 (.int .i64 3)] 172 (0, 0))
theorem FaultIn.below {w w' : World} {N : Nat} (h : FaultIn w N) (hb : Below w.heap.size w w') : FaultIn w' N := by
  obtain ⟨M, a, b, h1, h2⟩ := h
  exact ⟨M, a, b, (hb.block N (lt_of_block h1)).trans h1, (hb.block M (lt_of_block h2)).trans h2⟩
/-- What filter.Read answers. -/
def ReadAns (w' : World) (u er : Value) (az : List At) (ps : List Pl) (cd pl : Int) : Prop :=
  (¬ cd = 0 ∧ u = .slice none 0 0 ∧ ∃ N, er = .iface 170 (.pointer (some ⟨N, 0, none⟩)) ∧ FaultAt w' N pl cd) ∨
  (cd = 0 ∧ ¬ FilterOk az (ps.map pdOf) ∧ u = .slice none 0 0 ∧ ∃ N, er = .iface 170 (.pointer (some ⟨N, 0, none⟩)) ∧ FaultIn w' N) ∨
  (cd = 0 ∧ FilterOk az (ps.map pdOf) ∧ er = .nilIface ∧ PlIn w' u ps)

set_option maxRecDepth 100000 in
set_option maxHeartbeats 1000000 in
theorem read_any (v : Value) (az : List At) (s : ByteArray) (ps : List Pl) (cd pl : Int) (W : World) (E : Env W) (hA : AtIn W v az) (hal : az.length ≤ 1000) (hn : ps.length ≤ 1000) (hp : ∀ p ∈ ps, PrnL p) (hT : TwoQ s ps cd pl) :
    Calls Tryz.prog 42 #[v, .string s] W fun e w' => ∃ u er, e = .returned (.tuple #[u, er]) ∧ ReadAns w' u er az ps cd pl ∧ Below W.heap.size W w' := by
  have HT : Hid _ := hT.1 W E
  have HA : Hid (AtIn W v az ∧ az.length ≤ 1000 ∧ (ps.map pdOf).length ≤ 1000) := ⟨hA, hal, by rw [List.length_map]; exact hn⟩
  have HS : Hid _ := pl_str hp
  clear hT E hA hal hn hp
  go_enter Tryz.func42, Tryz.ntmps42
  go_wp2_with fail
  refine Calls.mono HT.out ?_
  rintro e W1 ⟨u, er, rfl, hP, her, b1⟩
  have HP1 : Hid (PlIn W1 u ps ∧ Below W.heap.size W W1) := ⟨hP, b1⟩
  clear HT hP b1
  rcases her with ⟨rfl, h0⟩ | ⟨h0, N, rfl, hF⟩
  · have HC : Hid (cd = 0) := h0
    clear h0
    go_wp2_with fail
    refine Calls.mono (filter_any v u az (ps.map pdOf) W1 (HA.out.1.below HP1.out.2) (PdIn.ofPl HP1.out.1) HA.out.2.1 HA.out.2.2 HS.out) ?_
    rintro e W2 ⟨hE, b2⟩
    have HP2 : Hid (PlIn W2 u ps ∧ Below W.heap.size W W2) := ⟨HP1.out.1.below b2, HP1.out.2.trans (b2.mono HP1.out.2.size)⟩
    clear b2 HP1
    rcases hE with ⟨rfl, hOK⟩ | ⟨b, n, rfl, hno, hbl⟩
    · have HOK : Hid (FilterOk az (ps.map pdOf)) := hOK
      clear hOK
      go_wp2
      go_ret2
      exact ⟨_, _, rfl, Or.inr (Or.inr ⟨HC.out, HOK.out, rfl, HP2.out.1⟩), HP2.out.2⟩
    · have HNO : Hid (¬ FilterOk az (ps.map pdOf)) := hno
      have HBL : Hid (W2.heap[b]? = _) := hbl
      clear hno hbl
      go_wp2
      go_ret2
      exact ⟨_, _, rfl, Or.inr (Or.inl ⟨HC.out, HNO.out, rfl, _, rfl, b, _, n, heap_alloc_new W2 _, (Below.heap_alloc W2 _ b (lt_of_block HBL.out)).trans HBL.out⟩), HP2.out.2.alloc HP2.out.2.size _⟩
  · have HF : Hid (¬ cd = 0 ∧ FaultAt W1 N pl cd) := ⟨h0, hF⟩
    clear h0 hF
    go_wp2
    go_ret2
    exact ⟨_, _, rfl, Or.inl ⟨HF.out.1, rfl, N, rfl, HF.out.2⟩, HP1.out.2⟩
end Go.Proofs.YtpepbhmdfjpblaaGreatDoor
