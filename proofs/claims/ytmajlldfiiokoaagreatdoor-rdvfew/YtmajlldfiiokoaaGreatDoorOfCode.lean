/- api.Of of a bare code is the code: errors.As is walked. -/
import Derived.Test.YtmajlldfiiokoaaGreatDoorRows
import Derived.Test.YtmajlldfiiokoaaGreatDoorAid
import Derived.LaidEql
import Derived.Stop.Asserts
import Derived.RowKitTokens
import Derived.WalkKit
import Derived.ProofKit
import Derived.OpenShut
import Derived.WalkLawsBesides
import Derived.OneCell
import Derived.Outline
namespace Go.Proofs.YtmajlldfiiokoaaGreatDoor
open Go.ChangeShapes Go.WideShapes Go.ChangeAt Go.RowKit Go.Extern.Stop Go.Stop Go.Extern
set_option linter.unusedVariables false

theorem valueOfP (t : Addr) (w : World) : Sem.run Tryz.prog (callFunc 155 #[.iface 181 (.pointer (some t))]) w
    = .ok (.value (.agg #[.pointer (some ⟨1, 181, none⟩), .pointer (some ⟨w.heap.size, 0, none⟩), .int .u64 150])) (w.alloc (.cells #[.pointer (some t)] 181)) := by
  rw [@run_callFunc_extern Tryz.prog 155 _ (fun args => ReflectliteValue.unpack (args.getD 0 (.tuple #[]))) Tryz.func155 (by kernel_rfl) (by kernel_rfl) (by kernel_rfl) (by kernel_rfl)]
  kernel_rfl
theorem valueOfC (c : Int) (w : World) : Sem.run Tryz.prog (callFunc 155 #[.iface 116 (.int .i64 c)]) w
    = .ok (.value (.agg #[.pointer (some ⟨1, 116, none⟩), .pointer (some ⟨w.heap.size, 0, none⟩), .int .u64 130])) (w.alloc (.cells #[.int .i64 c] 116)) := by
  rw [@run_callFunc_extern Tryz.prog 155 _ (fun args => ReflectliteValue.unpack (args.getD 0 (.tuple #[]))) Tryz.func155 (by kernel_rfl) (by kernel_rfl) (by kernel_rfl) (by kernel_rfl)]
  kernel_rfl
theorem typeOfV (a : Addr) (w : World) : Sem.run Tryz.prog (callFunc 156 #[.agg #[.pointer (some ⟨1, 181, none⟩), .pointer (some a), .int .u64 150]]) w
    = .ok (.value (.iface 259 (.agg #[.pointer (some ⟨1, 181, none⟩)]))) w := by
  rw [@run_callFunc_extern Tryz.prog 156 _ (ReflectliteValue.methodAny (ReflectliteValue.valueError "reflectlite.Value.Type" 0) (fun t _ _ _ => ReflectliteType.toType t)) Tryz.func156 (by kernel_rfl) (by kernel_rfl) (by kernel_rfl) (by kernel_rfl)]
  kernel_rfl
theorem m_kind (h : Value) (w : World) : (Go.method 432 259 (.agg #[h]) "Kind").run Tryz.prog w = .ok (245, h) w := by kernel_rfl
theorem kindP (w : World) : Sem.run Tryz.prog (callFunc 245 #[.pointer (some ⟨1, 181, none⟩)]) w = .ok (.value (.int .u8 22)) w := by
  rw [@run_callFunc_extern Tryz.prog 245 _ (ReflectliteType.abiMethod fun t => do pure (.int .u8 (← Rtype.kind t))) Tryz.func245 (by kernel_rfl) (by kernel_rfl) (by kernel_rfl) (by kernel_rfl)]
  kernel_rfl
theorem kindC (w : World) : Sem.run Tryz.prog (callFunc 245 #[.pointer (some ⟨1, 116, none⟩)]) w = .ok (.value (.int .u8 2)) w := by
  rw [@run_callFunc_extern Tryz.prog 245 _ (ReflectliteType.abiMethod fun t => do pure (.int .u8 (← Rtype.kind t))) Tryz.func245 (by kernel_rfl) (by kernel_rfl) (by kernel_rfl) (by kernel_rfl)]
  kernel_rfl
theorem m_elem (h : Value) (w : World) : (Go.method 432 259 (.agg #[h]) "Elem").run Tryz.prog w = .ok (259, .agg #[h]) w := by kernel_rfl
theorem m_impl (h : Value) (w : World) : (Go.method 432 259 (.agg #[h]) "Implements").run Tryz.prog w = .ok (260, .agg #[h]) w := by kernel_rfl
theorem m_assign (h : Value) (w : World) : (Go.method 432 259 (.agg #[h]) "AssignableTo").run Tryz.prog w = .ok (257, .agg #[h]) w := by kernel_rfl
theorem elemT (w : World) : Sem.run Tryz.prog (callFunc 259 #[.agg #[.pointer (some ⟨1, 181, none⟩)]]) w = .ok (.value (.iface 259 (.agg #[.pointer (some ⟨1, 116, none⟩)]))) w := by
  rw [@run_callFunc_extern Tryz.prog 259 _ (ReflectliteType.method ReflectliteType.elem) Tryz.func259 (by kernel_rfl) (by kernel_rfl) (by kernel_rfl) (by kernel_rfl)]
  kernel_rfl
theorem implT (w : World) : Sem.run Tryz.prog (callFunc 260 #[.agg #[.pointer (some ⟨1, 116, none⟩)], .iface 259 (.agg #[.pointer (some ⟨1, 45, none⟩)])]) w = .ok (.value (.bool true)) w := by
  rw [@run_callFunc_extern Tryz.prog 260 _ (ReflectliteType.relation "Implements" ReflectliteType.implements_) Tryz.func260 (by kernel_rfl) (by kernel_rfl) (by kernel_rfl) (by kernel_rfl)]
  kernel_rfl
theorem assignC (w : World) : Sem.run Tryz.prog (callFunc 257 #[.agg #[.pointer (some ⟨1, 116, none⟩)], .iface 259 (.agg #[.pointer (some ⟨1, 116, none⟩)])]) w = .ok (.value (.bool true)) w := by
  rw [@run_callFunc_extern Tryz.prog 257 _ (ReflectliteType.relation "AssignableTo" ReflectliteType.assignableTo) Tryz.func257 (by kernel_rfl) (by kernel_rfl) (by kernel_rfl) (by kernel_rfl)]
  kernel_rfl

theorem rlm (z : Sem Value) (f : TypeId → Addr → Nat → Nat → Sem Value) (v : Value) :
    ReflectliteValue.method z f #[v] = (do match ← ReflectliteValue.parts v with | none => z | some (t, a, fl) => f t a fl (fl % 32)) := rfl
theorem partsP (a : Addr) (w : World) : (ReflectliteValue.parts (.agg #[.pointer (some ⟨1, 181, none⟩), .pointer (some a), .int .u64 150])).run Tryz.prog w = .ok (some (181, a, 150)) w := by kernel_rfl
theorem isNilP (a p : Addr) (W : World) (ha : W.cell? a = some (.pointer (some p))) :
    Sem.run Tryz.prog (callFunc 157 #[.agg #[.pointer (some ⟨1, 181, none⟩), .pointer (some a), .int .u64 150]]) W = .ok (.value (.bool false)) W := by
  rw [@run_callFunc_extern Tryz.prog 157 _ (ReflectliteValue.method (ReflectliteValue.valueError "reflectlite.Value.IsNil" 0) ReflectliteValue.isNil) Tryz.func157 (by kernel_rfl) (by kernel_rfl) (by kernel_rfl) (by kernel_rfl)]
  rw [rlm]
  simp only [Sem.run_bind, partsP, Result.andThen]
  simp [ReflectliteValue.isNil, loadVar, isAgg, underlying, Tryz.underlying181, ha, Result.andThen]
theorem elemOfP (w : World) : (Rtype.elem? 181).run Tryz.prog w = .ok (some 116) w := by kernel_rfl
theorem mkC (p : Addr) (w : World) : (ReflectliteValue.mk 116 p ReflectliteValue.flagAddr).run Tryz.prog w = .ok (.agg #[.pointer (some ⟨1, 116, none⟩), .pointer (some p), .int .u64 386]) w := by kernel_rfl
theorem elemV (a p : Addr) (W : World) (ha : W.cell? a = some (.pointer (some p))) :
    Sem.run Tryz.prog (callFunc 185 #[.agg #[.pointer (some ⟨1, 181, none⟩), .pointer (some a), .int .u64 150]]) W
      = .ok (.value (.agg #[.pointer (some ⟨1, 116, none⟩), .pointer (some p), .int .u64 386])) W := by
  rw [@run_callFunc_extern Tryz.prog 185 _ (ReflectliteValue.method (ReflectliteValue.valueError "reflectlite.Value.Elem" 0) ReflectliteValue.elem) Tryz.func185 (by kernel_rfl) (by kernel_rfl) (by kernel_rfl) (by kernel_rfl)]
  rw [rlm]
  simp only [Sem.run_bind, partsP, Result.andThen]
  simp [ReflectliteValue.elem, loadVar, isAgg, underlying, Tryz.underlying181, ha, Result.andThen, elemOfP, mkC]
theorem rls (v x : Value) : ReflectliteValue.set #[v, x] = (do
    let (some (dst, a, fl), some (src, b, _)) := (← ReflectliteValue.parts v, ← ReflectliteValue.parts x)
      | unsupported (.noEntry "extern/(internal/reflectlite.Value).Set.zeroValue")
    if fl / ReflectliteValue.flagAddr % 2 == 0 then unsupported (.noEntry "extern/(internal/reflectlite.Value).Set.unaddressable")
    let val ← loadVar src b
    if ← Rtype.directlyAssignable dst src then storeVar dst a val
    else if ← Rtype.implements dst src then
      if (← Rtype.kind src) == 20 then
        match val with
        | .nilIface => unsupported (.noEntry "extern/reflectlite: a nil value of one interface type handed on as a value of another")
        | _ => storeVar dst a val
      else storeVar dst a (.iface src val)
    else panicString ("reflectlite.Set: value of type " ++ (← Rtype.spelt src) ++ " is not assignable to type " ++ (← Rtype.spelt dst))
    pure (.tuple #[])) := rfl
theorem partsCa (a : Addr) (w : World) : (ReflectliteValue.parts (.agg #[.pointer (some ⟨1, 116, none⟩), .pointer (some a), .int .u64 386])).run Tryz.prog w = .ok (some (116, a, 386)) w := by kernel_rfl
theorem partsC (a : Addr) (w : World) : (ReflectliteValue.parts (.agg #[.pointer (some ⟨1, 116, none⟩), .pointer (some a), .int .u64 130])).run Tryz.prog w = .ok (some (116, a, 130)) w := by kernel_rfl
theorem directC (w : World) : (Rtype.directlyAssignable 116 116).run Tryz.prog w = .ok true w := by kernel_rfl
theorem setC (ta b : Addr) (c : Int) (old : Value) (W : World) (hb : W.cell? b = some (.int .i64 c)) (ht : W.cell? ta = some old) (hf : W.frozen? ta = false) :
    Sem.run Tryz.prog (callFunc 186 #[.agg #[.pointer (some ⟨1, 116, none⟩), .pointer (some ta), .int .u64 386], .agg #[.pointer (some ⟨1, 116, none⟩), .pointer (some b), .int .u64 130]]) W
      = .ok (.value (.tuple #[])) (W.setCell ta (.int .i64 c)) := by
  rw [@run_callFunc_extern Tryz.prog 186 _ ReflectliteValue.set Tryz.func186 (by kernel_rfl) (by kernel_rfl) (by kernel_rfl) (by kernel_rfl)]
  rw [rls]
  simp only [Sem.run_bind, partsCa, partsC, Result.andThen]
  simp [ReflectliteValue.flagAddr, loadVar, isAgg, underlying, Tryz.underlying116, hb, Result.andThen, directC, storeVar, Value.cells, storeCells, Addr.add]
  rw [run_store Tryz.prog W ta _ _ (by rfl)]
  simp [ht, hf]

/-- errors.errorType holds error's type. -/
def ErrType (w : World) : Prop := w.cell? ⟨0, 0, none⟩ = some (.iface 259 (.agg #[.pointer (some ⟨1, 45, none⟩)]))

theorem ErrType.lt {w : World} (h : ErrType w) : 0 < w.heap.size := by
  rcases Nat.eq_zero_or_pos w.heap.size with h0 | h1
  · unfold ErrType at h; simp [World.cell?, h0] at h
  · exact h1
theorem ErrType.below {w w' : World} {B : Nat} (h : ErrType w) (hB : 0 < B) (hb : Below B w w') : ErrType w' := by
  unfold ErrType at *
  rw [← h]; exact World.cell?_of_block (hb.block 0 hB)


theorem of_nil (w : World) : Calls Tryz.prog 59 #[.nilIface] w fun e w' => e = .returned (.int .i64 0) ∧ w' = w := by
  go_enter Tryz.func59, Tryz.ntmps59
  go_wp2
  go_ret
  exact ⟨rfl, rfl⟩


theorem typeOfC4 (v : Value) (w : World) : Sem.run Tryz.prog (callFunc 184 #[.iface 116 v]) w = .ok (.value (.iface 259 (.agg #[.pointer (some ⟨1, 116, none⟩)]))) w := by
  rw [@run_callFunc_extern Tryz.prog 184 _ Extern.ReflectliteType.typeOf Tryz.func184 (by kernel_rfl) (by kernel_rfl) (by kernel_rfl) (by kernel_rfl)]
  kernel_rfl

set_option maxHeartbeats 4000000 in
theorem as_code (tb : Nat) (c : Int) (old : Value) (w : World) (hg : ErrType w) (ht0 : w.cell? ⟨tb, 0, none⟩ = some old) (hf0 : w.frozen? ⟨tb, 0, none⟩ = false) :
    Calls Tryz.prog 110 #[.iface 116 (.int .i64 c), .iface 181 (.pointer (some ⟨tb, 0, none⟩))] w fun ev w' => ev = .returned (.bool true) ∧
      w' = ((((w.alloc (.cells #[.pointer (some ⟨tb, 0, none⟩)] 181)).alloc (.cells #[.pointer (some ⟨1, 181, none⟩), .pointer (some ⟨w.heap.size, 0, none⟩), .int .u64 150] 226)).alloc (.cells #[.pointer (some ⟨1, 181, none⟩), .pointer (some ⟨w.heap.size, 0, none⟩), .int .u64 150] 226)).alloc (.cells #[.int .i64 c] 116)).setCell ⟨tb, 0, none⟩ (.int .i64 c) := by
  have hlt := hg.lt
  have hg0 : w.cell? ⟨0, 0, none⟩ = some (.iface 259 (.agg #[.pointer (some ⟨1, 45, none⟩)])) := hg
  clear hg
  have h1 := valueOfP
  have h2 := valueOfC
  have h3 := typeOfV
  have h4 := m_kind
  have h5 := kindP
  have h6 := kindC
  have h7 := m_elem
  have h8 := m_impl
  have h9 := m_assign
  have h10 := elemT
  have h11 := implT
  have h14 := assignC
  have h18 := typeOfC4
  have htl : tb < w.heap.size := by
    rcases Nat.lt_or_ge tb w.heap.size with h | h
    · exact h
    · simp [World.cell?, Array.getElem?_eq_none h] at ht0
  obtain ⟨A, hA⟩ : ∃ A, A = Obj.cells #[.pointer (some ⟨tb, 0, none⟩)] 181 := ⟨_, rfl⟩
  obtain ⟨V, hV⟩ : ∃ V, V = Obj.cells #[.pointer (some ⟨1, 181, none⟩), .pointer (some ⟨w.heap.size, 0, none⟩), .int .u64 150] 226 := ⟨_, rfl⟩
  obtain ⟨D, hD⟩ : ∃ D, D = Obj.cells #[.int .i64 c] 116 := ⟨_, rfl⟩
  have n8 := isNilP ⟨w.heap.size, 0, none⟩ ⟨tb, 0, none⟩ ((w.alloc A).alloc V) (by rw [World.cell?_alloc_lt _ _ ⟨w.heap.size, 0, none⟩ (by simp), hA]; simp)
  have hg2 : ((w.alloc A).alloc V).cell? ⟨0, 0, none⟩ = some (.iface 259 (.agg #[.pointer (some ⟨1, 45, none⟩)])) := by
    rw [World.cell?_alloc_lt _ _ ⟨0, 0, none⟩ (by simp), World.cell?_alloc_lt _ _ ⟨0, 0, none⟩ hlt]; exact hg0
  have el := elemV ⟨w.heap.size, 0, none⟩ ⟨tb, 0, none⟩ (((w.alloc A).alloc V).alloc V) (by rw [World.cell?_alloc_lt _ _ ⟨w.heap.size, 0, none⟩ (by simp; omega), World.cell?_alloc_lt _ _ ⟨w.heap.size, 0, none⟩ (by simp), hA]; simp)
  have st := setC ⟨tb, 0, none⟩ ⟨w.heap.size + 1 + 1 + 1, 0, none⟩ c old ((((w.alloc A).alloc V).alloc V).alloc D)
    (by rw [hD, World.cell?_alloc_at _ _ _ _ (by simp)]; rfl)
    (by rw [World.cell?_alloc_lt _ _ ⟨tb, 0, none⟩ (by simp; omega), World.cell?_alloc_lt _ _ ⟨tb, 0, none⟩ (by simp; omega), World.cell?_alloc_lt _ _ ⟨tb, 0, none⟩ (by simp; omega), World.cell?_alloc_lt _ _ ⟨tb, 0, none⟩ htl]; exact ht0)
    (by rw [World.frozen?_alloc_old _ _ ⟨tb, 0, none⟩ (by simp; omega), World.frozen?_alloc_old _ _ ⟨tb, 0, none⟩ (by simp; omega), World.frozen?_alloc_old _ _ ⟨tb, 0, none⟩ (by simp; omega), World.frozen?_alloc_old _ _ ⟨tb, 0, none⟩ (Nat.ne_of_lt htl)]; exact hf0)
  subst hA hV hD
  clear hg0
  go_enter Tryz.func110, Tryz.ntmps110
  go_wp2
  refine wp_loop_rounds 1 ?_
  rw [rounds_succ]
  go_wp2
  go_ret
  exact ⟨rfl, rfl⟩

theorem of_code (c : Int) (w : World) (hg : ErrType w) :
    Calls Tryz.prog 59 #[.iface 116 (.int .i64 c)] w fun e w' => e = .returned (.int .i64 c) ∧ Below w.heap.size w w' := by
  have hlt := hg.lt
  have hg1 : ErrType (w.alloc (.cells #[.int .i64 0] 116)) := hg.below hlt ((Below.refl _ _).alloc (Nat.le_refl _) _)
  go_enter Tryz.func59, Tryz.ntmps59
  go_wp2_with fail
  refine (as_code w.heap.size c (.int .i64 0) _ hg1 (by simp) (by simp)).mono ?_
  rintro e w' ⟨rfl, hw'⟩
  have hb : Below w.heap.size w w' := by
    rw [hw']
    refine Below.setCell (((((Below.refl _ _).alloc (Nat.le_refl _) _).alloc (by simp) _).alloc (by simp; omega) _).alloc (by simp; omega) _ |>.alloc (by simp; omega) _) (Nat.le_refl _) _
  have hcell : w'.cell? ⟨w.heap.size, 0, none⟩ = some (.int .i64 c) := by
    rw [hw']
    refine World.cell?_setCell_same' _ _ _ ?_
    rw [World.cell?_alloc_lt _ _ ⟨w.heap.size, 0, none⟩ (by simp; omega), World.cell?_alloc_lt _ _ ⟨w.heap.size, 0, none⟩ (by simp; omega), World.cell?_alloc_lt _ _ ⟨w.heap.size, 0, none⟩ (by simp; omega), World.cell?_alloc_lt _ _ ⟨w.heap.size, 0, none⟩ (by simp)]
    simp
  clear hw'
  go_wp2
  go_ret
  exact ⟨rfl, hb⟩
end Go.Proofs.YtmajlldfiiokoaaGreatDoor
