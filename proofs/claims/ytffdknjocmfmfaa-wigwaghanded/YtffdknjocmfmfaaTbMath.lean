/- Entries of a table; what several want, as one. No program in sight. -/
import Derived.Test.YtffdknjocmfmfaaLinMath
namespace Go.Proofs.Ytffdknjocmfmfaa
open Go.RowKit
set_option linter.unusedVariables false

/-- An entry, and where its filters lie. -/
structure Ep where
  gr : ByteArray
  ch : Int
  a : Option Addr
  ln : Nat
  cp : Nat
  any : Bool
  till : Int
  fs : List ByteArray
def ep0 : Ep := ⟨ByteArray.empty, 0, none, 0, 0, false, 0, []⟩
def Ep.cells (x : Ep) : List Value := [.string x.gr, .int .i64 x.ch, .slice x.a x.ln x.cp, .bool x.any, .int .i64 x.till]
theorem Ep.cells_len (x : Ep) : x.cells.length = 5 := rfl
def Ep.key (x : Ep) : ByteArray × Int := (x.gr, x.ch)

def joinF : List ByteArray → List ByteArray → Option (List ByteArray)
  | acc, [] => some acc
  | acc, f :: r => if hasS acc f then joinF acc r else if acc.length = 16 then none else joinF (putIn ltS acc f) r
def joinE : List ByteArray → List (Bool × List ByteArray) → Option (List ByteArray)
  | acc, [] => some acc
  | acc, x :: r => if x.1 then none else match joinF acc x.2 with
    | none => none
    | some acc' => joinE acc' r
/-- What an entry wants. -/
def Ep.want (x : Ep) : Bool × List ByteArray := (x.any, x.fs)

theorem drop_cons {α : Type} (d : α) (L : List α) (i : Nat) (h : i < L.length) : L.drop i = L.getD i d :: L.drop (i + 1) := by
  rw [List.drop_eq_getElem_cons h, getD_getElemL d L i h]
theorem joinF_asc {acc fs r : List ByteArray} (h : Asc ltS acc) (hl : acc.length ≤ 16) (hj : joinF acc fs = some r) : Asc ltS r ∧ r.length ≤ 16 ∧ ∀ x, x ∈ r ↔ x ∈ acc ∨ x ∈ fs := by
  induction fs generalizing acc with
  | nil => simp [joinF] at hj; subst hj; exact ⟨h, hl, fun x => by simp⟩
  | cons f fs ih =>
    unfold joinF at hj
    split at hj
    · rename_i hh
      obtain ⟨h1, h2, h3⟩ := ih h hl hj
      have hf := (hasS_iff acc f).1 hh
      refine ⟨h1, h2, fun x => ?_⟩
      rw [h3 x]
      constructor
      · rintro (q | q)
        · exact .inl q
        · exact .inr (List.mem_cons_of_mem _ q)
      · rintro (q | q)
        · exact .inl q
        · rcases List.mem_cons.1 q with rfl | q
          · exact .inl hf
          · exact .inr q
    · rename_i hh
      split at hj
      · cases hj
      · rename_i h16
        have hf : f ∉ acc := fun q => hh ((hasS_iff acc f).2 q)
        obtain ⟨h1, h2, h3⟩ := ih (asc_putIn linS acc h f hf) (by rw [len_putIn]; omega) hj
        refine ⟨h1, h2, fun x => ?_⟩
        rw [h3 x, mem_putIn]
        constructor
        · rintro ((rfl | q) | q)
          · exact .inr (List.mem_cons_self ..)
          · exact .inl q
          · exact .inr (List.mem_cons_of_mem _ q)
        · rintro (q | q)
          · exact .inl (.inr q)
          · rcases List.mem_cons.1 q with rfl | q
            · exact .inl (.inl rfl)
            · exact .inr q
end Go.Proofs.Ytffdknjocmfmfaa
