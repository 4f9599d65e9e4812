/- filter.printPred, filter.Print. -/
import Derived.Test.YtkncpojijfeahaaGreatDoorFilPrt
import Derived.Test.YtkncpojijfeahaaGreatDoorShelf
import Derived.Lib.Join
namespace Go.Proofs.YtkncpojijfeahaaGreatDoor
open Go.ChangeShapes Go.WideShapes Go.ChangeAt Go.RowKit
set_option linter.unusedVariables false

theorem itoaF (n : Int) (w : World) (E : Env w) (h1 : -9999999999 ≤ n) (h2 : n ≤ 9999999999) : Calls Tryz.prog 120 #[.int .i64 n] w fun e w' => e = .returned (.string (ba (Lib.itoa n))) ∧ Below w.heap.size w w' := by
  refine (Tryz.strconv_Itoa n (by omega) (by omega) w E.tab).mono ?_
  rintro e w' ⟨rfl, k, os, rfl⟩
  exact ⟨rfl, grow_below _ _ _⟩
theorem itoa_len11 (v : Int) (h1 : -9999999999 ≤ v) (h2 : v ≤ 9999999999) : (Lib.itoa v).length ≤ 11 := by
  by_cases hneg : v < 0
  · obtain ⟨u, rfl⟩ : ∃ u : Nat, v = -(u : Int) := ⟨v.natAbs, by omega⟩
    rw [Lib.itoa_neg u (by omega)]
    have := decD_len10 u (by omega)
    simp; omega
  · obtain ⟨u, rfl⟩ : ∃ u : Nat, v = (u : Int) := ⟨v.toNat, by omega⟩
    rw [Lib.itoa_nonneg]
    have := decD_len10 u (by omega)
    omega
theorem qq_size (st : List UInt8) (h : st.length ≤ 1000) : (ba (34 :: (qL st ++ [34]))).size ≤ 2002 := by
  rw [ba_size]; have := qL_len st; simp; omega
/-- What can be printed, and isn't too long. -/
structure PrnL (p : Pl) : Prop where
  prn : Prn p
  nl : p.name.length ≤ 1000
  sl : p.str.length ≤ 1000
theorem pP_len (p : Pl) (h : PrnL p) : (pP p).length ≤ 3100 := by
  obtain ⟨nm, op, lo, hi, st⟩ := p
  obtain ⟨⟨_, _, hc⟩, h1, h2⟩ := h
  simp only at hc h1 h2
  have hq := qL_len st
  unfold pP
  simp only
  rcases hc with ⟨rfl, a1, a2, a3, a4, _⟩ | ⟨ho, _⟩
  · rw [if_pos rfl]
    have := itoa_len11 lo a1 a2
    have := itoa_len11 hi a3 a4
    simp; omega
  · rw [if_neg (by omega)]
    split <;> simp <;> omega
theorem join_pF : ∀ ps : List Pl, Lib.join (ps.map pP) [32, 97, 110, 100, 32] = pF ps
  | [] => rfl
  | [p] => by rw [List.map_cons, List.map_nil, Lib.join_one]; rfl
  | p :: q :: ps => by
    have ih := join_pF (q :: ps)
    rw [List.map_cons, Lib.join_cons, List.map_cons]
    rw [List.map_cons, Lib.join_cons] at ih
    show pP p ++ Lib.joinTail [32, 97, 110, 100, 32] (pP q :: ps.map pP) = pP p ++ 32 :: 97 :: 110 :: 100 :: 32 :: pF (q :: ps)
    rw [← ih]
    unfold Lib.joinTail
    simp
theorem pF_le : ∀ (ps : List Pl), (∀ p ∈ ps, PrnL p) → (pF ps).length ≤ 3200 * ps.length
  | [], _ => by simp [pF]
  | [p], h => by unfold pF; have := pP_len p (h p (by simp)); simp; omega
  | p :: q :: ps, h => by
    have ih := pF_le (q :: ps) (fun x hx => h x (by simp [hx]))
    have := pP_len p (h p (by simp))
    unfold pF
    simp at ih ⊢; omega
theorem Tryz.infoStr : (Tryz.prog.info? 9).map (fun i => (i.zero, i.size, i.bytes)) = some (some (.string ByteArray.empty), 1, 16) := by kernel_rfl
def cellP (p : Pl) : Value := .string (ba (pP p))

end Go.Proofs.YtkncpojijfeahaaGreatDoor
