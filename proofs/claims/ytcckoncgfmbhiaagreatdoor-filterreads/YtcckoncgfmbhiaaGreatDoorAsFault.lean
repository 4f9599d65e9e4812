/- errors.As of a fault finds it: errors.As is walked. -/
import Derived.Test.YtcckoncgfmbhiaaGreatDoorRows
import Derived.Test.YtcckoncgfmbhiaaGreatDoorAid
import Derived.LaidEql
import Derived.Stop.Asserts
import Derived.RowKitTokens
import Derived.WalkKit
import Derived.ProofKit
import Derived.OpenShut
import Derived.WalkLawsBesides
import Derived.OneCell
import Derived.Outline
namespace Go.Proofs.YtcckoncgfmbhiaaGreatDoor
open Go.ChangeShapes Go.WideShapes Go.ChangeAt Go.RowKit Go.Extern.Stop Go.Stop Go.Extern
set_option linter.unusedVariables false

theorem valueOfPQ (t : Addr) (w : World) : Sem.run Tryz.prog (callFunc 51 #[.iface 77 (.pointer (some t))]) w
    = .ok (.value (.agg #[.pointer (some ⟨7, 77, none⟩), .pointer (some ⟨w.heap.size, 0, none⟩), .int .u64 150])) (w.alloc (.cells #[.pointer (some t)] 77)) := by
  rw [@run_callFunc_extern Tryz.prog 51 _ (fun args => ReflectliteValue.unpack (args.getD 0 (.tuple #[]))) Tryz.func51 (by kernel_rfl) (by kernel_rfl) (by kernel_rfl) (by kernel_rfl)]
  kernel_rfl
theorem valueOfCQ (c : Nat) (w : World) : Sem.run Tryz.prog (callFunc 51 #[.iface 60 (.pointer (some ⟨c, 0, none⟩))]) w
    = .ok (.value (.agg #[.pointer (some ⟨7, 60, none⟩), .pointer (some ⟨w.heap.size, 0, none⟩), .int .u64 150])) (w.alloc (.cells #[.pointer (some ⟨c, 0, none⟩)] 60)) := by
  rw [@run_callFunc_extern Tryz.prog 51 _ (fun args => ReflectliteValue.unpack (args.getD 0 (.tuple #[]))) Tryz.func51 (by kernel_rfl) (by kernel_rfl) (by kernel_rfl) (by kernel_rfl)]
  kernel_rfl
theorem typeOfVQ (a : Addr) (w : World) : Sem.run Tryz.prog (callFunc 52 #[.agg #[.pointer (some ⟨7, 77, none⟩), .pointer (some a), .int .u64 150]]) w
    = .ok (.value (.iface 131 (.agg #[.pointer (some ⟨7, 77, none⟩)]))) w := by
  rw [@run_callFunc_extern Tryz.prog 52 _ (ReflectliteValue.methodAny (ReflectliteValue.valueError "reflectlite.Value.Type" 0) (fun t _ _ _ => ReflectliteType.toType t)) Tryz.func52 (by kernel_rfl) (by kernel_rfl) (by kernel_rfl) (by kernel_rfl)]
  kernel_rfl
theorem m_kindQ (h : Value) (w : World) : (Go.method 313 131 (.agg #[h]) "Kind").run Tryz.prog w = .ok (126, h) w := by kernel_rfl
theorem kindPQ (w : World) : Sem.run Tryz.prog (callFunc 126 #[.pointer (some ⟨7, 77, none⟩)]) w = .ok (.value (.int .u8 22)) w := by
  rw [@run_callFunc_extern Tryz.prog 126 _ (ReflectliteType.abiMethod fun t => do pure (.int .u8 (← Rtype.kind t))) Tryz.func126 (by kernel_rfl) (by kernel_rfl) (by kernel_rfl) (by kernel_rfl)]
  kernel_rfl
theorem kindCQ (w : World) : Sem.run Tryz.prog (callFunc 126 #[.pointer (some ⟨7, 60, none⟩)]) w = .ok (.value (.int .u8 22)) w := by
  rw [@run_callFunc_extern Tryz.prog 126 _ (ReflectliteType.abiMethod fun t => do pure (.int .u8 (← Rtype.kind t))) Tryz.func126 (by kernel_rfl) (by kernel_rfl) (by kernel_rfl) (by kernel_rfl)]
  kernel_rfl
theorem m_elemQ (h : Value) (w : World) : (Go.method 313 131 (.agg #[h]) "Elem").run Tryz.prog w = .ok (139, .agg #[h]) w := by kernel_rfl
theorem m_implQ (h : Value) (w : World) : (Go.method 313 131 (.agg #[h]) "Implements").run Tryz.prog w = .ok (140, .agg #[h]) w := by kernel_rfl
theorem m_assignQ (h : Value) (w : World) : (Go.method 313 131 (.agg #[h]) "AssignableTo").run Tryz.prog w = .ok (137, .agg #[h]) w := by kernel_rfl
theorem elemTQ (w : World) : Sem.run Tryz.prog (callFunc 139 #[.agg #[.pointer (some ⟨7, 77, none⟩)]]) w = .ok (.value (.iface 131 (.agg #[.pointer (some ⟨7, 60, none⟩)]))) w := by
  rw [@run_callFunc_extern Tryz.prog 139 _ (ReflectliteType.method ReflectliteType.elem) Tryz.func139 (by kernel_rfl) (by kernel_rfl) (by kernel_rfl) (by kernel_rfl)]
  kernel_rfl
theorem implTQ (w : World) : Sem.run Tryz.prog (callFunc 140 #[.agg #[.pointer (some ⟨7, 60, none⟩)], .iface 131 (.agg #[.pointer (some ⟨7, 31, none⟩)])]) w = .ok (.value (.bool true)) w := by
  rw [@run_callFunc_extern Tryz.prog 140 _ (ReflectliteType.relation "Implements" ReflectliteType.implements_) Tryz.func140 (by kernel_rfl) (by kernel_rfl) (by kernel_rfl) (by kernel_rfl)]
  kernel_rfl
theorem assignCQ (w : World) : Sem.run Tryz.prog (callFunc 137 #[.agg #[.pointer (some ⟨7, 60, none⟩)], .iface 131 (.agg #[.pointer (some ⟨7, 60, none⟩)])]) w = .ok (.value (.bool true)) w := by
  rw [@run_callFunc_extern Tryz.prog 137 _ (ReflectliteType.relation "AssignableTo" ReflectliteType.assignableTo) Tryz.func137 (by kernel_rfl) (by kernel_rfl) (by kernel_rfl) (by kernel_rfl)]
  kernel_rfl

theorem rlmQ (z : Sem Value) (f : TypeId → Addr → Nat → Nat → Sem Value) (v : Value) :
    ReflectliteValue.method z f #[v] = (do match ← ReflectliteValue.parts v with | none => z | some (t, a, fl) => f t a fl (fl % 32)) := rfl
theorem partsPQ (a : Addr) (w : World) : (ReflectliteValue.parts (.agg #[.pointer (some ⟨7, 77, none⟩), .pointer (some a), .int .u64 150])).run Tryz.prog w = .ok (some (77, a, 150)) w := by kernel_rfl
theorem isNilPQ (a p : Addr) (W : World) (ha : W.cell? a = some (.pointer (some p))) :
    Sem.run Tryz.prog (callFunc 53 #[.agg #[.pointer (some ⟨7, 77, none⟩), .pointer (some a), .int .u64 150]]) W = .ok (.value (.bool false)) W := by
  rw [@run_callFunc_extern Tryz.prog 53 _ (ReflectliteValue.method (ReflectliteValue.valueError "reflectlite.Value.IsNil" 0) ReflectliteValue.isNil) Tryz.func53 (by kernel_rfl) (by kernel_rfl) (by kernel_rfl) (by kernel_rfl)]
  rw [rlmQ]
  simp only [Sem.run_bind, partsPQ, Result.andThen]
  simp [ReflectliteValue.isNil, loadVar, isAgg, underlying, Tryz.underlying77, ha, Result.andThen]
theorem elemOfPQ (w : World) : (Rtype.elem? 77).run Tryz.prog w = .ok (some 60) w := by kernel_rfl
theorem mkCQ (p : Addr) (w : World) : (ReflectliteValue.mk 60 p ReflectliteValue.flagAddr).run Tryz.prog w = .ok (.agg #[.pointer (some ⟨7, 60, none⟩), .pointer (some p), .int .u64 406]) w := by kernel_rfl
theorem elemVQ (a p : Addr) (W : World) (ha : W.cell? a = some (.pointer (some p))) :
    Sem.run Tryz.prog (callFunc 68 #[.agg #[.pointer (some ⟨7, 77, none⟩), .pointer (some a), .int .u64 150]]) W
      = .ok (.value (.agg #[.pointer (some ⟨7, 60, none⟩), .pointer (some p), .int .u64 406])) W := by
  rw [@run_callFunc_extern Tryz.prog 68 _ (ReflectliteValue.method (ReflectliteValue.valueError "reflectlite.Value.Elem" 0) ReflectliteValue.elem) Tryz.func68 (by kernel_rfl) (by kernel_rfl) (by kernel_rfl) (by kernel_rfl)]
  rw [rlmQ]
  simp only [Sem.run_bind, partsPQ, Result.andThen]
  simp [ReflectliteValue.elem, loadVar, isAgg, underlying, Tryz.underlying77, ha, Result.andThen, elemOfPQ, mkCQ]
theorem rlsQ (v x : Value) : ReflectliteValue.set #[v, x] = (do
    let (some (dst, a, fl), some (src, b, _)) := (← ReflectliteValue.parts v, ← ReflectliteValue.parts x)
      | unsupported (.noEntry "extern/(internal/reflectlite.Value).Set.zeroValue")
    if fl / ReflectliteValue.flagAddr % 2 == 0 then unsupported (.noEntry "extern/(internal/reflectlite.Value).Set.unaddressable")
    let val ← loadVar src b
    if ← Rtype.directlyAssignable dst src then storeVar dst a val
    else if ← Rtype.implements dst src then
      if (← Rtype.kind src) == 20 then
        match val with
        | .nilIface => unsupported (.noEntry "extern/reflectlite: a nil value of one interface type handed on as a value of another")
        | _ => storeVar dst a val
      else storeVar dst a (.iface src val)
    else panicString ("reflectlite.Set: value of type " ++ (← Rtype.spelt src) ++ " is not assignable to type " ++ (← Rtype.spelt dst))
    pure (.tuple #[])) := rfl
theorem partsCaQ (a : Addr) (w : World) : (ReflectliteValue.parts (.agg #[.pointer (some ⟨7, 60, none⟩), .pointer (some a), .int .u64 406])).run Tryz.prog w = .ok (some (60, a, 406)) w := by kernel_rfl
theorem partsCQ (a : Addr) (w : World) : (ReflectliteValue.parts (.agg #[.pointer (some ⟨7, 60, none⟩), .pointer (some a), .int .u64 150])).run Tryz.prog w = .ok (some (60, a, 150)) w := by kernel_rfl
theorem directCQ (w : World) : (Rtype.directlyAssignable 60 60).run Tryz.prog w = .ok true w := by kernel_rfl
theorem setCQ (ta b : Addr) (c : Nat) (old : Value) (W : World) (hb : W.cell? b = some (.pointer (some ⟨c, 0, none⟩))) (ht : W.cell? ta = some old) (hf : W.frozen? ta = false) :
    Sem.run Tryz.prog (callFunc 69 #[.agg #[.pointer (some ⟨7, 60, none⟩), .pointer (some ta), .int .u64 406], .agg #[.pointer (some ⟨7, 60, none⟩), .pointer (some b), .int .u64 150]]) W
      = .ok (.value (.tuple #[])) (W.setCell ta (.pointer (some ⟨c, 0, none⟩))) := by
  rw [@run_callFunc_extern Tryz.prog 69 _ ReflectliteValue.set Tryz.func69 (by kernel_rfl) (by kernel_rfl) (by kernel_rfl) (by kernel_rfl)]
  rw [rlsQ]
  simp only [Sem.run_bind, partsCaQ, partsCQ, Result.andThen]
  simp [ReflectliteValue.flagAddr, loadVar, isAgg, underlying, Tryz.underlying60, hb, Result.andThen, directCQ, storeVar, Value.cells, storeCells, Addr.add]
  rw [run_store Tryz.prog W ta _ _ (by rfl)]
  simp [ht, hf]

/-- errors.errorType holds error's type. -/
def ErrType (w : World) : Prop := w.cell? ⟨0, 0, none⟩ = some (.iface 131 (.agg #[.pointer (some ⟨7, 31, none⟩)]))

theorem ErrType.lt {w : World} (h : ErrType w) : 0 < w.heap.size := by
  rcases Nat.eq_zero_or_pos w.heap.size with h0 | h1
  · unfold ErrType at h; simp [World.cell?, h0] at h
  · exact h1
theorem ErrType.below {w w' : World} {B : Nat} (h : ErrType w) (hB : 0 < B) (hb : Below B w w') : ErrType w' := by
  unfold ErrType at *
  rw [← h]; exact World.cell?_of_block (hb.block 0 hB)


theorem typeOfC4Q (v : Value) (w : World) : Sem.run Tryz.prog (callFunc 49 #[.iface 60 v]) w = .ok (.value (.iface 131 (.agg #[.pointer (some ⟨7, 60, none⟩)]))) w := by
  rw [@run_callFunc_extern Tryz.prog 49 _ Extern.ReflectliteType.typeOf Tryz.func49 (by kernel_rfl) (by kernel_rfl) (by kernel_rfl) (by kernel_rfl)]
  kernel_rfl

set_option maxHeartbeats 4000000 in
theorem as_codeQ (tb : Nat) (c : Nat) (old : Value) (w : World) (hg : ErrType w) (ht0 : w.cell? ⟨tb, 0, none⟩ = some old) (hf0 : w.frozen? ⟨tb, 0, none⟩ = false) :
    Calls Tryz.prog 29 #[.iface 60 (.pointer (some ⟨c, 0, none⟩)), .iface 77 (.pointer (some ⟨tb, 0, none⟩))] w fun ev w' => ev = .returned (.bool true) ∧
      w' = ((((w.alloc (.cells #[.pointer (some ⟨tb, 0, none⟩)] 77)).alloc (.cells #[.pointer (some ⟨7, 77, none⟩), .pointer (some ⟨w.heap.size, 0, none⟩), .int .u64 150] 109)).alloc (.cells #[.pointer (some ⟨7, 77, none⟩), .pointer (some ⟨w.heap.size, 0, none⟩), .int .u64 150] 109)).alloc (.cells #[.pointer (some ⟨c, 0, none⟩)] 60)).setCell ⟨tb, 0, none⟩ (.pointer (some ⟨c, 0, none⟩)) := by
  have hlt := hg.lt
  have hg0 : w.cell? ⟨0, 0, none⟩ = some (.iface 131 (.agg #[.pointer (some ⟨7, 31, none⟩)])) := hg
  clear hg
  have h1 := valueOfPQ
  have h2 := valueOfCQ
  have h3 := typeOfVQ
  have h4 := m_kindQ
  have h5 := kindPQ
  have h6 := kindCQ
  have h7 := m_elemQ
  have h8 := m_implQ
  have h9 := m_assignQ
  have h10 := elemTQ
  have h11 := implTQ
  have h14 := assignCQ
  have h18 := typeOfC4Q
  have htl : tb < w.heap.size := by
    rcases Nat.lt_or_ge tb w.heap.size with h | h
    · exact h
    · simp [World.cell?, Array.getElem?_eq_none h] at ht0
  obtain ⟨A, hA⟩ : ∃ A, A = Obj.cells #[.pointer (some ⟨tb, 0, none⟩)] 77 := ⟨_, rfl⟩
  obtain ⟨V, hV⟩ : ∃ V, V = Obj.cells #[.pointer (some ⟨7, 77, none⟩), .pointer (some ⟨w.heap.size, 0, none⟩), .int .u64 150] 109 := ⟨_, rfl⟩
  obtain ⟨D, hD⟩ : ∃ D, D = Obj.cells #[.pointer (some ⟨c, 0, none⟩)] 60 := ⟨_, rfl⟩
  have n8 := isNilPQ ⟨w.heap.size, 0, none⟩ ⟨tb, 0, none⟩ ((w.alloc A).alloc V) (by rw [World.cell?_alloc_lt _ _ ⟨w.heap.size, 0, none⟩ (by simp), hA]; simp)
  have hg2 : ((w.alloc A).alloc V).cell? ⟨0, 0, none⟩ = some (.iface 131 (.agg #[.pointer (some ⟨7, 31, none⟩)])) := by
    rw [World.cell?_alloc_lt _ _ ⟨0, 0, none⟩ (by simp), World.cell?_alloc_lt _ _ ⟨0, 0, none⟩ hlt]; exact hg0
  have el := elemVQ ⟨w.heap.size, 0, none⟩ ⟨tb, 0, none⟩ (((w.alloc A).alloc V).alloc V) (by rw [World.cell?_alloc_lt _ _ ⟨w.heap.size, 0, none⟩ (by simp; omega), World.cell?_alloc_lt _ _ ⟨w.heap.size, 0, none⟩ (by simp), hA]; simp)
  have st := setCQ ⟨tb, 0, none⟩ ⟨w.heap.size + 1 + 1 + 1, 0, none⟩ c old ((((w.alloc A).alloc V).alloc V).alloc D)
    (by rw [hD, World.cell?_alloc_at _ _ _ _ (by simp)]; rfl)
    (by rw [World.cell?_alloc_lt _ _ ⟨tb, 0, none⟩ (by simp; omega), World.cell?_alloc_lt _ _ ⟨tb, 0, none⟩ (by simp; omega), World.cell?_alloc_lt _ _ ⟨tb, 0, none⟩ (by simp; omega), World.cell?_alloc_lt _ _ ⟨tb, 0, none⟩ htl]; exact ht0)
    (by rw [World.frozen?_alloc_old _ _ ⟨tb, 0, none⟩ (by simp; omega), World.frozen?_alloc_old _ _ ⟨tb, 0, none⟩ (by simp; omega), World.frozen?_alloc_old _ _ ⟨tb, 0, none⟩ (by simp; omega), World.frozen?_alloc_old _ _ ⟨tb, 0, none⟩ (Nat.ne_of_lt htl)]; exact hf0)
  subst hA hV hD
  clear hg0
  go_enter Tryz.func29, Tryz.ntmps29
  go_wp2
  refine wp_loop_rounds 1 ?_
  rw [rounds_succ]
  go_wp2
  go_ret
  exact ⟨rfl, rfl⟩

end Go.Proofs.YtcckoncgfmbhiaaGreatDoor
