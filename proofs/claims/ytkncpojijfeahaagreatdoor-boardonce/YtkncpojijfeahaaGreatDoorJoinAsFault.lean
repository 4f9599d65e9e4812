/- errors.As of a fault finds it: errors.As is walked. -/
import Derived.Test.YtkncpojijfeahaaGreatDoorRows
import Derived.Test.YtkncpojijfeahaaGreatDoorJoinBkMap
import Derived.LaidEql
import Derived.Stop.Asserts
import Derived.RowKitTokens
import Derived.WalkKit
import Derived.ProofKit
import Derived.OpenShut
import Derived.WalkLawsBesides
import Derived.OneCell
import Derived.Outline
import Derived.Test.YtkncpojijfeahaaGreatDoorFilTry
import Derived.Test.YtkncpojijfeahaaGreatDoorJoinBkBase
set_option linter.unnecessarySimpa false
namespace Go.Proofs.YtkncpojijfeahaaGreatDoor
open Go.ChangeShapes Go.WideShapes Go.ChangeAt Go.RowKit Go.Extern.Stop Go.Stop Go.Extern
set_option linter.unusedVariables false

theorem valueOfCQ (c : Nat) (w : World) : Sem.run Tryz.prog (callFunc 62 #[.iface 129 (.pointer (some ⟨c, 0, none⟩))]) w
    = .ok (.value (.agg #[.pointer (some ⟨6, 129, none⟩), .pointer (some ⟨w.heap.size, 0, none⟩), .int .u64 150])) (w.alloc (.cells #[.pointer (some ⟨c, 0, none⟩)] 129)) := by
  rw [@run_callFunc_extern Tryz.prog 62 _ (fun args => ReflectliteValue.unpack (args.getD 0 (.tuple #[]))) Tryz.func62 (by kernel_rfl) (by kernel_rfl) (by kernel_rfl) (by kernel_rfl)]
  kernel_rfl
theorem m_kindQ (h : Value) (w : World) : (Go.method 392 143 (.agg #[h]) "Kind").run Tryz.prog w = .ok (159, h) w := by kernel_rfl
theorem kindCQ (w : World) : Sem.run Tryz.prog (callFunc 159 #[.pointer (some ⟨6, 129, none⟩)]) w = .ok (.value (.int .u8 22)) w := by
  rw [@run_callFunc_extern Tryz.prog 159 _ (ReflectliteType.abiMethod fun t => do pure (.int .u8 (← Rtype.kind t))) Tryz.func159 (by kernel_rfl) (by kernel_rfl) (by kernel_rfl) (by kernel_rfl)]
  kernel_rfl
theorem m_elemQ (h : Value) (w : World) : (Go.method 392 143 (.agg #[h]) "Elem").run Tryz.prog w = .ok (168, .agg #[h]) w := by kernel_rfl
theorem m_implQ (h : Value) (w : World) : (Go.method 392 143 (.agg #[h]) "Implements").run Tryz.prog w = .ok (169, .agg #[h]) w := by kernel_rfl
theorem m_assignQ (h : Value) (w : World) : (Go.method 392 143 (.agg #[h]) "AssignableTo").run Tryz.prog w = .ok (166, .agg #[h]) w := by kernel_rfl
theorem implTQ (w : World) : Sem.run Tryz.prog (callFunc 169 #[.agg #[.pointer (some ⟨6, 129, none⟩)], .iface 143 (.agg #[.pointer (some ⟨6, 36, none⟩)])]) w = .ok (.value (.bool true)) w := by
  rw [@run_callFunc_extern Tryz.prog 169 _ (ReflectliteType.relation "Implements" ReflectliteType.implements_) Tryz.func169 (by kernel_rfl) (by kernel_rfl) (by kernel_rfl) (by kernel_rfl)]
  kernel_rfl
theorem assignCQ (w : World) : Sem.run Tryz.prog (callFunc 166 #[.agg #[.pointer (some ⟨6, 129, none⟩)], .iface 143 (.agg #[.pointer (some ⟨6, 129, none⟩)])]) w = .ok (.value (.bool true)) w := by
  rw [@run_callFunc_extern Tryz.prog 166 _ (ReflectliteType.relation "AssignableTo" ReflectliteType.assignableTo) Tryz.func166 (by kernel_rfl) (by kernel_rfl) (by kernel_rfl) (by kernel_rfl)]
  kernel_rfl

theorem rlmQ (z : Sem Value) (f : TypeId → Addr → Nat → Nat → Sem Value) (v : Value) :
    ReflectliteValue.method z f #[v] = (do match ← ReflectliteValue.parts v with | none => z | some (t, a, fl) => f t a fl (fl % 32)) := rfl
theorem mkCQ (p : Addr) (w : World) : (ReflectliteValue.mk 129 p ReflectliteValue.flagAddr).run Tryz.prog w = .ok (.agg #[.pointer (some ⟨6, 129, none⟩), .pointer (some p), .int .u64 406]) w := by kernel_rfl
theorem rlsQ (v x : Value) : ReflectliteValue.set #[v, x] = (do
    let (some (dst, a, fl), some (src, b, _)) := (← ReflectliteValue.parts v, ← ReflectliteValue.parts x)
      | unsupported (.noEntry "extern/(internal/reflectlite.Value).Set.zeroValue")
    if fl / ReflectliteValue.flagAddr % 2 == 0 then unsupported (.noEntry "extern/(internal/reflectlite.Value).Set.unaddressable")
    let val ← loadVar src b
    if ← Rtype.directlyAssignable dst src then storeVar dst a val
    else if ← Rtype.implements dst src then
      if (← Rtype.kind src) == 20 then
        match val with
        | .nilIface => unsupported (.noEntry "extern/reflectlite: a nil value of one interface type handed on as a value of another")
        | _ => storeVar dst a val
      else storeVar dst a (.iface src val)
    else panicString ("reflectlite.Set: value of type " ++ (← Rtype.spelt src) ++ " is not assignable to type " ++ (← Rtype.spelt dst))
    pure (.tuple #[])) := rfl
theorem partsCaQ (a : Addr) (w : World) : (ReflectliteValue.parts (.agg #[.pointer (some ⟨6, 129, none⟩), .pointer (some a), .int .u64 406])).run Tryz.prog w = .ok (some (129, a, 406)) w := by kernel_rfl
theorem partsCQ (a : Addr) (w : World) : (ReflectliteValue.parts (.agg #[.pointer (some ⟨6, 129, none⟩), .pointer (some a), .int .u64 150])).run Tryz.prog w = .ok (some (129, a, 150)) w := by kernel_rfl
theorem directCQ (w : World) : (Rtype.directlyAssignable 129 129).run Tryz.prog w = .ok true w := by kernel_rfl
theorem setCQ (ta b : Addr) (c : Nat) (old : Value) (W : World) (hb : W.cell? b = some (.pointer (some ⟨c, 0, none⟩))) (ht : W.cell? ta = some old) (hf : W.frozen? ta = false) :
    Sem.run Tryz.prog (callFunc 92 #[.agg #[.pointer (some ⟨6, 129, none⟩), .pointer (some ta), .int .u64 406], .agg #[.pointer (some ⟨6, 129, none⟩), .pointer (some b), .int .u64 150]]) W
      = .ok (.value (.tuple #[])) (W.setCell ta (.pointer (some ⟨c, 0, none⟩))) := by
  rw [@run_callFunc_extern Tryz.prog 92 _ ReflectliteValue.set Tryz.func92 (by kernel_rfl) (by kernel_rfl) (by kernel_rfl) (by kernel_rfl)]
  rw [rlsQ]
  simp only [Sem.run_bind, partsCaQ, partsCQ, Result.andThen]
  simp [ReflectliteValue.flagAddr, loadVar, isAgg, underlying, Tryz.underlying129, hb, Result.andThen, directCQ, storeVar, Value.cells, storeCells, Addr.add]
  rw [run_store Tryz.prog W ta _ _ (by rfl)]
  simp [ht, hf]

/-- errors.errorType holds error's type. -/
def ErrType (w : World) : Prop := w.cell? ⟨0, 0, none⟩ = some (.iface 143 (.agg #[.pointer (some ⟨6, 36, none⟩)]))

theorem ErrType.lt {w : World} (h : ErrType w) : 0 < w.heap.size := by
  rcases Nat.eq_zero_or_pos w.heap.size with h0 | h1
  · unfold ErrType at h; simp [World.cell?, h0] at h
  · exact h1
theorem ErrType.below {w w' : World} {B : Nat} (h : ErrType w) (hB : 0 < B) (hb : Below B w w') : ErrType w' := by
  unfold ErrType at *
  rw [← h]; exact World.cell?_of_block (hb.block 0 hB)


theorem typeOfC4Q (v : Value) (w : World) : Sem.run Tryz.prog (callFunc 31 #[.iface 129 v]) w = .ok (.value (.iface 143 (.agg #[.pointer (some ⟨6, 129, none⟩)]))) w := by
  rw [@run_callFunc_extern Tryz.prog 31 _ Extern.ReflectliteType.typeOf Tryz.func31 (by kernel_rfl) (by kernel_rfl) (by kernel_rfl) (by kernel_rfl)]
  kernel_rfl

end Go.Proofs.YtkncpojijfeahaaGreatDoor

/- wigwaglaw06's awake and at; errors.Is and errors.As of a fault. -/
namespace Go.Proofs.YtkncpojijfeahaaGreatDoor
open Go.ChangeShapes Go.WideShapes Go.ChangeAt Go.RowKit Go.Extern.Stop Go.Stop Go.Extern
set_option linter.unusedVariables false

theorem no_is_fl (v : Value) (xT : TypeId) (w : World) : (Instr.typeAssert (.iface 129 v) xT 145 true).run Tryz.prog w = .ok (.tuple #[.nilIface, .bool false]) w := run_typeAssert_lacksB Tryz.underlying145 (by kernel_rfl) (by kernel_rfl) v xT w
theorem has_unwrapl (v : Value) (xT : TypeId) (w : World) : (Instr.typeAssert (.iface 129 v) xT 148 true).run Tryz.prog w = .ok (.tuple #[.iface 129 v, .bool true]) w := run_typeAssert_hasB Tryz.underlying148 (by kernel_rfl) v xT w
theorem unwrap_methodl (v : Value) (w : World) : (Go.method 392 129 v "Unwrap").run Tryz.prog w = .ok (164, v) w := by kernel_rfl
set_option maxRecDepth 100000 in
theorem is_faultl (g : Nat) (c at' : Int) (w : World) (h : FaultAt w g at' c) :
    Calls Tryz.prog 15 #[.iface 129 (.pointer (some ⟨g, 0, none⟩)), .iface 52 (.int .i64 c)] w fun e w' => e = .returned (.bool true) ∧ w' = w := by
  have hc2 : w.cell? ⟨g, 2, none⟩ = some (.iface 52 (.int .i64 c)) := by unfold FaultAt at h; simp [World.cell?, h]
  clear h
  have h28 := type_callL
  have h51 := comp_callL
  have mC := comp_methodL
  have nF := no_is_fl
  have uF := has_unwrapl
  have mU := unwrap_methodl
  have hty := run_eql_iface_types (P := Tryz.prog) 129 52 (.pointer (some ⟨g, 0, none⟩)) (.int .i64 c) Tryz.underlying36 (by decide) w
  have heq := eql_codesL c c w
  have hcc : (c == c) = true := by simp
  rw [hcc] at heq
  clear hcc
  go_enter Tryz.func15, Tryz.ntmps15
  go_wp2
  refine wp_loop_rounds 2 ?_
  rw [rounds_succ]
  go_wp2
  rw [rounds_succ]
  go_wp2
  go_ret
  exact ⟨rfl, rfl⟩
theorem FaultAt.below {w w' : World} {g : Nat} {a c : Int} (h : FaultAt w g a c) (hb : Below w.heap.size w w') : FaultAt w' g a c := (hb.block g (lt_of_block h)).trans h
/-- The predicates of a filter that was made lie where it shows. -/
theorem fil_cells {w : World} {B : Nat} {v : Value} {us : List Pl} (h : w.ownsRow B 134 5 v us.length (us.flatMap Pl.cells)) (h0 : 0 < us.length) (d : Pl) :
    ∃ g c, v = .slice (some ⟨g, 0, none⟩) us.length c ∧ us.length ≤ c ∧ B ≤ g ∧ g < w.heap.size ∧ ∀ i, i < us.length → ∀ j, j < 5 → w.cell? ⟨g, i * 5 + j, none⟩ = (us.getD i d).cells[j]? := by
  rcases h.2 with ⟨_, h1⟩ | ⟨g, cap, cur, hv, hb, hg, hnc, _⟩
  · omega
  · refine ⟨g, cap, hv, hnc, hb, lt_of_block hg, fun i hi j hj => ?_⟩
    have hx := flat_get Pl.cells 5 Pl.cells_len d us i j hi hj
    have hj' : j < (us.getD i d).cells.length := hj
    have e := h.cells (g := g) (by rw [hv]; rfl) (i * 5 + j) ((us.getD i d).cells[j]) (by rw [hx, List.getElem?_eq_getElem hj'])
    have ea : (⟨g, 0, none⟩ : Addr).add (i * 5 + j) = ⟨g, i * 5 + j, none⟩ := by unfold Addr.add; split <;> simp_all
    rw [ea] at e
    rw [e, List.getElem?_eq_getElem hj']
/-- What Parse answers, by the text's filter. -/
theorem ParsAns.ok {e : Ending} {w w' : World} {s : ByteArray} {ps : List Pl} {r : List UInt8} (h : ParsAns e w w' s) (hs : ¬ 300 < s.size) (hp : pars s.data.toList = .ok ps r) : ∃ v, e = .returned (.tuple #[v, .nilIface]) ∧ w'.ownsRow w.heap.size 134 5 v ps.length (ps.flatMap Pl.cells) := by
  unfold ParsAns at h; rw [if_neg hs, hp] at h; exact h
theorem ParsAns.fail {e : Ending} {w w' : World} {s : ByteArray} {b : Bool} {r : List UInt8} (h : ParsAns e w w' s) (hs : ¬ 300 < s.size) (hp : pars s.data.toList = .fail b r) : ∃ N, e = .returned (.tuple #[.slice none 0 0, .iface 129 (.pointer (some ⟨N, 0, none⟩))]) ∧ FaultAt w' N ((s.size - r.length : Nat) : Int) 2 := by
  unfold ParsAns at h; rw [if_neg hs, hp] at h; exact h

end Go.Proofs.YtkncpojijfeahaaGreatDoor

/- wigwaglaw06.told: a filter as the document's; wigwagref06.Same of two that are alike. -/
namespace Go.Proofs.YtkncpojijfeahaaGreatDoor
open Go.ChangeShapes Go.WideShapes Go.ChangeAt Go.RowKit
set_option linter.unusedVariables false

def pl0 : Pl := ⟨[], 0, 0, 0, []⟩
/-- Predicates of a slice: they lie in block g from its beginning on (if there are any). -/
structure PlIn (w : World) (v : Value) (ps : List Pl) : Prop where
  shape : ∃ a c, v = .slice a ps.length c ∧ (0 < ps.length → ∃ g, a = some ⟨g, 0, none⟩ ∧ g < w.heap.size ∧ ps.length ≤ c ∧ ∀ i, i < ps.length → ∀ j, j < 5 → w.cell? ⟨g, i * 5 + j, none⟩ = (ps.getD i pl0).cells[j]?)
theorem PlIn.below {w w' : World} {v : Value} {ps : List Pl} (h : PlIn w v ps) (hb : Below w.heap.size w w') : PlIn w' v ps := by
  obtain ⟨a, c, hv, hh⟩ := h.shape
  refine ⟨a, c, hv, fun hp => ?_⟩
  obtain ⟨g, ha, hg, hc, hj⟩ := hh hp
  exact ⟨g, ha, Nat.lt_of_lt_of_le hg hb.size, hc, fun i hi j hj5 => (hb.cell (p := ⟨g, i * 5 + j, none⟩) hg).trans (hj i hi j hj5)⟩
theorem PlIn.ofOwn {w : World} {B : Nat} {e : TypeId} {v : Value} {us : List Pl} (h : w.ownsRow B e 5 v us.length (us.flatMap Pl.cells)) : PlIn w v us := by
  rcases h.2 with ⟨hv, h1⟩ | ⟨g, cap, cur, hv, hb, hg, hnc, _⟩
  · refine ⟨none, 0, by rw [hv, h1], fun hp => by omega⟩
  · refine ⟨_, cap, hv, fun hp => ⟨g, rfl, lt_of_block hg, hnc, fun i hi j hj => ?_⟩⟩
    have hx := flat_get Pl.cells 5 Pl.cells_len pl0 us i j hi hj
    have hj' : j < (us.getD i pl0).cells.length := hj
    have e := h.cells (g := g) (by rw [hv]; rfl) (i * 5 + j) ((us.getD i pl0).cells[j]) (by rw [hx, List.getElem?_eq_getElem hj'])
    have ea : (⟨g, 0, none⟩ : Addr).add (i * 5 + j) = ⟨g, i * 5 + j, none⟩ := by unfold Addr.add; split <;> simp_all
    rw [ea] at e
    rw [e, List.getElem?_eq_getElem hj']
theorem PlIn.row {w : World} {a : Option Addr} {n c : Nat} {ps : List Pl} (h : PlIn w (.slice a n c) ps) (k : Nat) (hk : k < ps.length) :
    ∃ g, a = some ⟨g, 0, none⟩ ∧ g < w.heap.size ∧ w.cell? ⟨g, k * 5, none⟩ = some (.string (ba (ps.getD k pl0).name)) ∧ w.cell? ⟨g, k * 5 + 1, none⟩ = some (.int .i64 (ps.getD k pl0).op) ∧ w.cell? ⟨g, k * 5 + 2, none⟩ = some (.int .i64 (ps.getD k pl0).lo) ∧ w.cell? ⟨g, k * 5 + 3, none⟩ = some (.int .i64 (ps.getD k pl0).hi) ∧ w.cell? ⟨g, k * 5 + 4, none⟩ = some (.string (ba (ps.getD k pl0).str)) := by
  obtain ⟨a', c', e, hh⟩ := h.shape
  obtain ⟨g, ha, hg, hc, hj⟩ := hh (by omega)
  simp at e
  obtain ⟨rfl, rfl, rfl⟩ := e
  have q := fun j hj5 => hj k hk j hj5
  exact ⟨g, ha, hg, q 0 (by omega), q 1 (by omega), q 2 (by omega), q 3 (by omega), q 4 (by omega)⟩
theorem Tryz.infoRP : (Tryz.prog.info? 160).map (fun i => (i.zero, i.size, i.bytes)) = some (some (.agg #[.string ByteArray.empty, .int .i64 0, .int .i64 0, .int .i64 0, .string ByteArray.empty]), 5, 56) := by kernel_rfl
theorem src_RPl (w : World) (q : Pl) (x : Nat) (hx : x = w.heap.size) :
    Src Tryz.prog 5 117 (.slice (some ⟨x, 0, none⟩) 1 1) 1 q.cells (w.alloc (.cells #[.string (ba q.name), .int .i64 q.op, .int .i64 q.lo, .int .i64 q.hi, .string (ba q.str)] 160)) :=
  Src.ofSlice _ Tryz.underlying117 _ 1 1 _ rfl (fun j u hu => by
    subst hx
    have := World.news_of_block (cs := #[.string (ba q.name), .int .i64 q.op, .int .i64 q.lo, .int .i64 q.hi, .string (ba q.str)]) (t := 160) (fr := (0, 0)) (heap_alloc_new w _) j u (by simpa [Pl.cells] using hu)
    exact this) (by simp [Pl.cells, Value.oneCell'])
theorem take_pl (ps : List Pl) (i : Nat) (hi : i < ps.length) : (ps.take (i + 1)).flatMap Pl.cells = (ps.take i).flatMap Pl.cells ++ (ps.getD i pl0).cells := by
  rw [List.take_succ_eq_append_getElem hi, List.flatMap_append]
  simp [hi]
theorem own_carryF {B : Nat} {w w' : World} {e : TypeId} {k n : Nat} {v : Value} {xs : List Value} (h : w.ownsRow B e k v n xs) (hb : Below w.heap.size w w') : w'.ownsRow B e k v n xs := by
  refine ⟨h.1, ?_⟩
  rcases h.2 with h1 | ⟨g', cap, cur, hv, hbg, hg, hr⟩
  · exact .inl h1
  · exact .inr ⟨g', cap, cur, hv, hbg, (hb.block g' (lt_of_block hg)).trans hg, hr⟩
theorem grown_belowF {B : Nat} {w0 w w' : World} {e : TypeId} {k n : Nat} {v : Value} {xs : List Value} (hb : Below B w0 w) (hle : B ≤ w.heap.size) (h : w.ownsRow B e k v n xs) (hg : w.grownBy w' v.ownBlock) : Below B w0 w' :=
  hb.trans ⟨hg.os, hg.tape, hg.output, hg.size, fun j hj => hg.block j (by omega) (fun e => by have := (h.lt j e.symm).1; omega)⟩

section
variable {P : Program} (w : World)
/-- An append to an own row (five cells an element) behind a guard that holds. -/
theorem wpList_own_append5g {ops : Array Oper} {rest : List Oper} {o : Oper} {a : Act} {Q : Exit → Act → World → Prop} (hw : Region.wanted o (yielded ops a.tmps) = true) (s x : Operand) (t tx : TypeId)
    (ho : o.op = .call { callee := .builtin .append, args := #[s, x], argTypes := #[t, tx] })
    (base : Nat) (e : TypeId) (i : TypeInfo) (z : Value) (bytes : Nat) (ht : P.underlying t = some (.slice e)) (hi : P.info? e = some i) (hz : i.zero = some z)
    (hsize : i.size = 5) (hby : i.bytes = bytes) (hzs : z.cells.size = 5)
    (v : Value) (n : Nat) (xs : List Value) (hv : a.eval s = v) (hown : w.ownsRow base e 5 v n xs) (xv : Value) (m : Nat) (news : List Value) (hx : a.eval x = xv) (hs : Src P 5 tx xv m news w)
    (h63 : n + m ≤ maxLen) (hbytes : (n + m) * bytes ≤ 140737488355328) (hbase : base ≤ w.heap.size)
    (hK : ∀ v' w', Appended5 base e w w' v v' (n + m) (xs ++ news) → wpList P ops Q rest (a.put o.dst v') w') : wpList P ops Q (o :: rest) a w := by
  refine wpList_step fun K hK' => ?_
  rw [if_pos hw]
  obtain ⟨v', w', hrun, r'⟩ := own_append5 (P := P) w base t tx o.type e i z bytes ht hi hz hsize hby hzs v n xs hown xv m news hs h63 hbytes hbase
  unfold Oper.wp
  simp [execOp, ho, resolve, invoke, builtin, hv, hx, hrun, Result.andThen]
  exact hK' _ _ (hK v' w' r')
end

end Go.Proofs.YtkncpojijfeahaaGreatDoor
