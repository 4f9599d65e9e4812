/- The board in memory: its box and its three maps. -/
import Derived.Test.YtpepbhmdfjpblaaGreatDoorBkMath
import Derived.Test.YtpepbhmdfjpblaaGreatDoorRows
import Derived.WalkKit
import Derived.ProofKit
import Derived.OpenShut
import Derived.WalkLawsBesides
import Derived.Below
namespace Go.Proofs.YtpepbhmdfjpblaaGreatDoor
open Go.ChangeShapes Go.WideShapes Go.ChangeAt Go.RowKit
open Go.ChangeMaps (setBlock)
set_option linter.unusedVariables false

def kv2 (k : Int × Int) : Value := .agg #[.int .i64 k.1, .int .i64 k.2]
def kv4 (k : Bgf) : Value := .agg #[.int .i64 k.1.1, .int .i64 k.1.2, .int .i64 k.2.1, .int .i64 k.2.2]
theorem kv2_inj (a b : Int × Int) (h : kv2 a = kv2 b) : a = b := by
  obtain ⟨x, y⟩ := a
  obtain ⟨z, u⟩ := b
  simp [kv2] at h
  simp [h]
theorem kv4_inj (a b : Bgf) (h : kv4 a = kv4 b) : a = b := by
  obtain ⟨⟨x, y⟩, ⟨z, u⟩⟩ := a
  obtain ⟨⟨x', y'⟩, ⟨z', u'⟩⟩ := b
  simp [kv4] at h
  simp [h]
theorem two_fields {l : List Field} {a b : String} {t u : TypeId} {o p : Nat} (h : l.map (fun f => (f.name, f.type, f.offset)) = [(a, t, o), (b, u, p)]) :
    ∃ f0 f1 : Field, l = [f0, f1] ∧ f0.name = a ∧ f0.type = t ∧ f0.offset = o ∧ f1.name = b ∧ f1.type = u ∧ f1.offset = p := by
  cases l with
  | nil => cases h
  | cons f0 l =>
    cases l with
    | nil => simp at h
    | cons f1 l =>
      cases l with
      | nil =>
        simp at h
        exact ⟨f0, f1, rfl, h.1.1, h.1.2.1, h.1.2.2, h.2.1, h.2.2.1, h.2.2.2⟩
      | cons f2 l => simp at h
theorem kp0 (x y : Int) (w : World) : (part 3 #[.int .i64 x, .int .i64 y] 0).run Tryz.prog w = .ok (.int .i64 x) w := by kernel_rfl
theorem kp1 (x y : Int) (w : World) : (part 3 #[.int .i64 x, .int .i64 y] 1).run Tryz.prog w = .ok (.int .i64 y) w := by kernel_rfl
theorem eq_two (d : Nat) (T : TypeId) (a b : String) (ht : Tryz.prog.underlying T = some (.struct (Tryz.prog.fieldsOf T))) (hp : Tryz.prog.stoodInHeld T = false) (hf : (Tryz.prog.fieldsOf T).toList.map (fun f => (f.name, f.type, f.offset)) = [(a, 3, 0), (b, 3, 1)]) (ha : a ≠ "_") (hb : b ≠ "_")
    (x y z u : Int) (w : World) : (Op.equalIn (d + 2) T (.agg #[.int .i64 x, .int .i64 y]) (.agg #[.int .i64 z, .int .i64 u])).run Tryz.prog w = .ok (x == z && y == u) w := by
  rw [run_equalIn_agg w (d + 1) _ _ _ ht hp]
  obtain ⟨f0, f1, hl, n0, t0, o0, n1, t1, o1⟩ := two_fields hf
  rw [hl]
  simp only [Op.eqFields, n0, n1, t0, t1, o0, o1, ne_eq, ha, hb, not_false_eq_true, if_true, Sem.run_bind, kp0, Result.andThen_ok]
  rw [run_equalIn_int w d _ _ _ _ _ Tryz.underlying3]
  by_cases e0 : x = z
  · have e0' : (x == z) = true := by simpa using e0
    simp only [e0', Result.andThen_ok, Bool.not_true, Bool.false_eq_true, if_false, Sem.run_bind, kp1]
    rw [run_equalIn_int w d _ _ _ _ _ Tryz.underlying3]
    cases e1 : (y == u) <;> simp
  · have e0' : (x == z) = false := by simpa using e0
    simp [e0']
theorem dec_two (x y z u : Int) : (x == z && y == u) = decide ((x, y) = (z, u)) := by
  by_cases e0 : x = z <;> by_cases e1 : y = u <;> simp [e0, e1]
theorem eq_stamp (a b : Int × Int) (w : World) : (Op.equal 100 (kv2 a) (kv2 b)).run Tryz.prog w = .ok (decide (a = b)) w := by
  obtain ⟨x, y⟩ := a
  obtain ⟨z, u⟩ := b
  rw [← dec_two]
  exact eq_two 9998 _ "pub" "seq" (by kernel_rfl) (by kernel_rfl) (by kernel_rfl) (by decide) (by decide) x y z u w
theorem eq_who (a b : Int × Int) (w : World) : (Op.equal 56 (kv2 a) (kv2 b)).run Tryz.prog w = .ok (decide (a = b)) w := by
  obtain ⟨x, y⟩ := a
  obtain ⟨z, u⟩ := b
  rw [← dec_two]
  exact eq_two 9998 _ "Node" "Sub" (by kernel_rfl) (by kernel_rfl) (by kernel_rfl) (by decide) (by decide) x y z u w
theorem gp0 (x y z u : Int) (w : World) : (part 56 #[.int .i64 x, .int .i64 y, .int .i64 z, .int .i64 u] 0).run Tryz.prog w = .ok (.agg #[.int .i64 x, .int .i64 y]) w := by kernel_rfl
theorem gp1 (x y z u : Int) (w : World) : (part 100 #[.int .i64 x, .int .i64 y, .int .i64 z, .int .i64 u] 2).run Tryz.prog w = .ok (.agg #[.int .i64 z, .int .i64 u]) w := by kernel_rfl
theorem eq_gift (a b : Bgf) (w : World) : (Op.equal 124 (kv4 a) (kv4 b)).run Tryz.prog w = .ok (decide (a = b)) w := by
  obtain ⟨⟨x, y⟩, ⟨z, u⟩⟩ := a
  obtain ⟨⟨x', y'⟩, ⟨z', u'⟩⟩ := b
  have hf : (Tryz.prog.fieldsOf 124).toList.map (fun f => (f.name, f.type, f.offset)) = [("to", 56, 0), ("what", 100, 2)] := by kernel_rfl
  obtain ⟨f0, f1, hl, n0, t0, o0, n1, t1, o1⟩ := two_fields hf
  have h : (Op.equalIn (9999 + 1) 124 (kv4 ((x, y), (z, u))) (kv4 ((x', y'), (z', u')))).run Tryz.prog w = .ok ((x == x' && y == y') && (z == z' && u == u')) w := by
    show (Op.equalIn (9999 + 1) _ (.agg _) (.agg _)).run _ _ = _
    rw [run_equalIn_agg w 9999 _ _ _ (by kernel_rfl) (by kernel_rfl), hl]
    have e1 := eq_two 9997 56 "Node" "Sub" (by kernel_rfl) (by kernel_rfl) (by kernel_rfl) (by decide) (by decide) x y x' y' w
    have e2 := eq_two 9997 100 "pub" "seq" (by kernel_rfl) (by kernel_rfl) (by kernel_rfl) (by decide) (by decide) z u z' u' w
    have d0 : ¬ ("to" = "_") := by decide
    have d1 : ¬ ("what" = "_") := by decide
    simp only [Op.eqFields, n0, n1, t0, t1, o0, o1, ne_eq, d0, d1, not_false_eq_true, if_true, Sem.run_bind, gp0, Result.andThen_ok]
    rw [e1]
    cases q : (x == x' && y == y')
    · simp
    · simp only [Result.andThen_ok, Bool.not_true, Bool.false_eq_true, if_false, Sem.run_bind, gp1]
      rw [e2]
      cases q2 : (z == z' && u == u') <;> simp
  have e : ((x == x' && y == y') && (z == z' && u == u')) = decide (((x, y), (z, u)) = ((x', y'), (z', u'))) := by
    rw [dec_two, dec_two]
    by_cases q : (x, y) = (x', y') <;> by_cases q2 : (z, u) = (z', u') <;> simp [q, q2]
  rw [← e]
  exact h
theorem ck_stamp (w : World) (b : Bool) (k : Int × Int) : (Instr.checkKey b 10000 100 (kv2 k)).run Tryz.prog w = .ok () w := by kernel_rfl
theorem ck_who (w : World) (b : Bool) (k : Int × Int) : (Instr.checkKey b 10000 56 (kv2 k)).run Tryz.prog w = .ok () w := by kernel_rfl
theorem ck_gift (w : World) (b : Bool) (k : Bgf) : (Instr.checkKey b 10000 124 (kv4 k)).run Tryz.prog w = .ok () w := by kernel_rfl
theorem key_stamp : KeyT Tryz.prog 100 kv2 := ⟨fun w k es m h => find_struct (fs := Tryz.prog.fieldsOf 100) (by kernel_rfl) (fun a => ⟨_, rfl⟩) eq_stamp w k es m h, ck_stamp, kv2_inj⟩
theorem key_who : KeyT Tryz.prog 56 kv2 := ⟨fun w k es m h => find_struct (fs := Tryz.prog.fieldsOf 56) (by kernel_rfl) (fun a => ⟨_, rfl⟩) eq_who w k es m h, ck_who, kv2_inj⟩
theorem key_gift : KeyT Tryz.prog 124 kv4 := ⟨fun w k es m h => find_struct (fs := Tryz.prog.fieldsOf 124) (by kernel_rfl) (fun a => ⟨_, rfl⟩) eq_gift w k es m h, ck_gift, kv4_inj⟩
end Go.Proofs.YtpepbhmdfjpblaaGreatDoor
