/- How long a message's bytes are that was cut. -/
import Derived.Test.YtakfinccoffplaaDoorMsRow
namespace Go.Proofs.YtakfinccoffplaaDoor
open Go.ChangeShapes Go.WideShapes Go.ChangeAt Go.RowKit
set_option linter.unusedVariables false

theorem flat_bound {α : Type} (f : α → List UInt8) (k : Nat) (l : List α) (h : ∀ a ∈ l, (f a).length ≤ k) : (l.flatMap f).length ≤ l.length * k := by
  induction l with
  | nil => simp
  | cons a l ih =>
    have h1 := h a (by simp)
    have h2 := ih (fun b hb => h b (by simp [hb]))
    rw [List.flatMap_cons, List.length_append, List.length_cons, Nat.add_mul]; omega
theorem txt_bound (s : ByteArray) (k : Nat) (h : s.size ≤ k) (hk : k ≤ 100000) : (txtB s).length ≤ k + 10 := by
  have := numB_len10 s.size (by omega)
  unfold txtB; simp; omega
theorem vl_mem {w : World} {a : Option Addr} {l : List Vl} (h : InRow 2 Vl.cells Vl.ok vl0 w a l.length l) {v : Vl} (hv : v ∈ l) : Vl.ok v := by
  obtain ⟨j, hj, hj2⟩ := List.getElem_of_mem hv
  obtain ⟨_, _, _, _, hok, _⟩ := h.get j hj
  have ej : l.getD j vl0 = v := by rw [← hj2]; simp [List.getD, hj]
  rw [ej] at hok; exact hok
theorem cut_wf {w : World} {fa va : Option Addr} (m : Mg) (h : MsOk w m fa va) : (cutM m).wf := by
  intro v hv
  obtain ⟨v0, h0, rfl⟩ := List.mem_map.1 (show v ∈ (m.vl.take 6).map cutV from hv)
  exact (vl_mem h.vr (List.mem_of_mem_take h0)).1
theorem cut_len {w : World} {fa va : Option Addr} (m : Mg) (h : MsOk w m fa va) : ((cutM m).fl.flatMap txtB).length + ((cutM m).vl.flatMap vlB).length + (txtB (cutM m).pay).length ≤ 700000 := by
  have h1 : ((cutM m).fl.flatMap txtB).length ≤ (cutM m).fl.length * 410 := flat_bound txtB 410 _ (fun f hf => by
    obtain ⟨f0, _, rfl⟩ := List.mem_map.1 (show f ∈ (m.fl.take 20).map (fun s => cut s 400) from hf)
    have := txt_bound (cut f0 400) 400 (cut_size _ _) (by omega)
    omega)
  have h2 : ((cutM m).vl.flatMap vlB).length ≤ (cutM m).vl.length * 80 := flat_bound vlB 80 _ (fun v hv => by
    have hn := cut_wf m h v hv
    obtain ⟨v0, _, rfl⟩ := List.mem_map.1 (show v ∈ (m.vl.take 6).map cutV from hv)
    have q1 := txt_bound (cut v0.str 50) 50 (cut_size _ _) (by omega)
    have q2 := numB_len10 (zig v0.num) (zig_lt _ hn.1 hn.2)
    show (intB v0.num ++ txtB (cut v0.str 50)).length ≤ 80
    rw [List.length_append]; unfold intB; omega)
  have h3 := txt_bound (cut m.pay 2100) 2100 (cut_size _ _) (by omega)
  have l1 : (cutM m).fl.length ≤ 20 := by show ((m.fl.take 20).map _).length ≤ 20; simp; omega
  have l2 : (cutM m).vl.length ≤ 6 := by show ((m.vl.take 6).map _).length ≤ 6; simp; omega
  have e3 : (cutM m).pay = cut m.pay 2100 := rfl
  rw [e3]
  have m1 : (cutM m).fl.length * 410 ≤ 20 * 410 := Nat.mul_le_mul_right _ l1
  have m2 : (cutM m).vl.length * 80 ≤ 6 * 80 := Nat.mul_le_mul_right _ l2
  omega
end Go.Proofs.YtakfinccoffplaaDoor
