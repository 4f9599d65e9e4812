/- A filter's text with another one behind it. No program in sight. -/
import Derived.Test.YtkncpojijfeahaaGreatDoorJoinIsCode
namespace Go.Proofs.YtkncpojijfeahaaGreatDoor
open Go.RowKit
set_option linter.unusedVariables false

theorem blank_app {l r : List UInt8} {c : UInt8} (Z : List UInt8) (h : l.dropWhile isBlank = c :: r) : (l ++ Z).dropWhile isBlank = c :: (r ++ Z) := by
  induction l with
  | nil => simp at h
  | cons d l ih =>
    rw [List.cons_append, List.dropWhile_cons] at *
    split at h
    · rename_i hd; rw [if_pos hd]; exact ih h
    · rename_i hd; rw [if_neg hd]; cases h; rfl
theorem blank_nil {l : List UInt8} (Z : List UInt8) (h : l.dropWhile isBlank = []) : (l ++ Z).dropWhile isBlank = Z.dropWhile isBlank := by
  induction l with
  | nil => rfl
  | cons d l ih =>
    rw [List.cons_append, List.dropWhile_cons] at *
    split at h
    · rename_i hd; rw [if_pos hd]; exact ih h
    · cases h
theorem tw_app (q : UInt8 → Bool) (hq : q 32 = false) (l Y : List UInt8) : (l ++ 32 :: Y).takeWhile q = l.takeWhile q ∧ (l ++ 32 :: Y).dropWhile q = l.dropWhile q ++ 32 :: Y := by
  induction l with
  | nil => simp [hq]
  | cons d l ih =>
    rw [List.cons_append, List.takeWhile_cons, List.dropWhile_cons, List.takeWhile_cons, List.dropWhile_cons]
    split
    · exact ⟨by rw [ih.1], ih.2⟩
    · exact ⟨rfl, rfl⟩
theorem rBegin_app {l r : List UInt8} {u : Unit} (Z : List UInt8) (h : rBegin l = .ok u r) : rBegin (l ++ Z) = .ok () (r ++ Z) := by
  obtain ⟨h1, h2⟩ := rBegin_ok (l := l) (r := r) h
  obtain ⟨c, r', rfl⟩ : ∃ c r', r = c :: r' := by
    cases r with
    | nil => exact absurd rfl h2
    | cons c r' => exact ⟨c, r', rfl⟩
  unfold rBegin; rw [blank_app Z h1]; rfl
theorem rWord_app {l v r : List UInt8} (Y : List UInt8) (h : rWord l = .ok v r) : rWord (l ++ 32 :: Y) = .ok v (r ++ 32 :: Y) := by
  unfold rWord at h
  split at h
  · cases h
  · rename_i c r' e
    split at h
    · rename_i hc
      cases h
      obtain ⟨t1, t2⟩ := tw_app alnum rfl (c :: r') Y
      unfold rWord; rw [blank_app _ e]
      simp only
      rw [if_pos hc]
      rw [List.cons_append] at t1 t2
      rw [t1, t2]
    · cases h
theorem rThis_app {w l r : List UInt8} {u : Unit} (Y : List UInt8) (h : rThis w l = .ok u r) : rThis w (l ++ 32 :: Y) = .ok () (r ++ 32 :: Y) := by
  unfold rThis at h
  split at h
  · rename_i v r' e
    split at h
    · rename_i hv
      cases h
      unfold rThis; rw [rWord_app Y e]; simp [hv]
    · cases h
  · cases h
theorem rMark_app {m l r : List UInt8} {u : Unit} (Z : List UInt8) (h : rMark m l = .ok u r) : rMark m (l ++ Z) = .ok () (r ++ Z) := by
  unfold rMark at h
  split at h
  · cases h
  · rename_i c r' e
    split at h
    · rename_i hp
      cases h
      have hp' : m <+: c :: (r' ++ Z) := by
        rw [← List.cons_append]; exact hp.trans (List.prefix_append _ _)
      unfold rMark; rw [blank_app Z e]
      simp only
      rw [if_pos hp', ← List.cons_append, List.drop_append_of_le_length hp.length_le]
    · cases h
theorem nSign_app (c : UInt8) (r Z : List UInt8) : nSign (c :: (r ++ Z)) = nSign (c :: r) := rfl
theorem rNumber_app {l r : List UInt8} {n : Int} (Y : List UInt8) (h : rNumber l = .ok n r) : rNumber (l ++ 32 :: Y) = .ok n (r ++ 32 :: Y) := by
  unfold rNumber at h
  split at h
  · cases h
  · rename_i c r' e
    have hs := nSign_app c r' (32 :: Y)
    have hsl : (nSign (c :: r')).length ≤ (c :: r').length := by unfold nSign; simp only; split <;> simp
    obtain ⟨t1, t2⟩ := tw_app isDigit rfl ((c :: r').drop (nSign (c :: r')).length) Y
    have hd : nDigits (c :: (r' ++ 32 :: Y)) = nDigits (c :: r') := by
      unfold nDigits; rw [hs, ← List.cons_append, List.drop_append_of_le_length hsl, t1]
    have hr : nRest (c :: (r' ++ 32 :: Y)) = nRest (c :: r') ++ 32 :: Y := by
      unfold nRest; rw [hs, ← List.cons_append, List.drop_append_of_le_length hsl, t2]
    split at h
    · rename_i v ea
      split at h
      · rename_i hc
        cases h
        unfold rNumber; rw [blank_app _ e]
        simp only [hs, hd, hr, ea]
        rw [if_pos hc]
      · cases h
    · cases h
theorem rChars_app (Z : List UInt8) (l : List UInt8) : ∀ acc v r, rChars acc l = .ok v r → rChars acc (l ++ Z) = .ok v (r ++ Z) := by
  induction hn : l.length using Nat.strongRecOn generalizing l with
  | _ n ih =>
    intro acc v r h
    cases l with
    | nil => unfold rChars at h; cases h
    | cons c l =>
      have hl : n = l.length + 1 := by rw [← hn]; rfl
      by_cases h1 : c.toNat = 34
      · rw [chars_q _ _ _ h1] at h
        cases h
        rw [List.cons_append, chars_q _ _ _ h1]
      · by_cases h2 : c.toNat < 32 ∨ 126 < c.toNat
        · rw [chars_bad _ _ _ h2] at h; cases h
        · by_cases h3 : c.toNat = 92
          · cases l with
            | nil => rw [chars_esc_end _ _ h3] at h; cases h
            | cons d l' =>
              cases hd : isSign d with
              | false => rw [chars_esc_bad _ _ _ _ h3 hd] at h; cases h
              | true =>
                rw [chars_esc _ _ _ _ h3 hd] at h
                rw [List.cons_append, List.cons_append, chars_esc _ _ _ _ h3 hd]
                exact ih l'.length (by simp at hl; omega) l' rfl _ _ _ h
          · rw [chars_go _ _ _ h1 h2 h3] at h
            rw [List.cons_append, chars_go _ _ _ h1 h2 h3]
            exact ih l.length (by omega) l rfl _ _ _ h
theorem rStr_app {l v r : List UInt8} (Z : List UInt8) (h : rStr l = .ok v r) : rStr (l ++ Z) = .ok v (r ++ Z) := by
  unfold rStr at h
  split at h
  · rename_i e; unfold rStr; rw [rMark_app Z e]; exact rChars_app Z _ _ _ _ h
  · cases h
theorem rMarkStr_app {m l v r : List UInt8} (Z : List UInt8) (h : rMarkStr m l = .ok v r) : rMarkStr m (l ++ Z) = .ok v (r ++ Z) := by
  unfold rMarkStr at h
  split at h
  · rename_i e; unfold rMarkStr; rw [rMark_app Z e]; exact rStr_app Z h
  · cases h
theorem rNums_app {l r : List UInt8} {v : Int × Int} (Y : List UInt8) (h : rNums l = .ok v r) : rNums (l ++ 32 :: Y) = .ok v (r ++ 32 :: Y) := by
  unfold rNums at h
  split at h
  · cases h
  · rename_i e1
    split at h
    · cases h
    · rename_i e2
      split at h
      · cases h
      · rename_i e3
        split at h
        · cases h
        · rename_i e4
          cases h
          unfold rNums; rw [rThis_app Y e1]; simp only [rNumber_app Y e2, rMark_app _ e3, rNumber_app Y e4]
theorem rAsk_app {nm l r : List UInt8} {q : Pl} (Y : List UInt8) (h : rAsk nm l = .ok q r) : rAsk nm (l ++ 32 :: Y) = .ok q (r ++ 32 :: Y) := by
  cases l with
  | nil => unfold rAsk at h; cases h
  | cons c l =>
    rw [List.cons_append]
    unfold rAsk at h ⊢
    simp only at h ⊢
    split at h
    · rename_i hc
      rw [if_pos hc]
      split at h
      · rename_i e; cases h
        have := rMarkStr_app (32 :: Y) e
        rw [List.cons_append] at this
        rw [this]
      · cases h
    · rename_i hc
      rw [if_neg hc]
      split at h
      · rename_i hc2
        rw [if_pos hc2]
        split at h
        · rename_i e; cases h
          have := rMarkStr_app (32 :: Y) e
          rw [List.cons_append] at this
          rw [this]
        · cases h
      · rename_i hc2
        rw [if_neg hc2]
        split at h
        · rename_i e; cases h
          have := rNums_app Y e
          rw [List.cons_append] at this
          rw [this]
        · cases h
theorem rPred_app {l r : List UInt8} {q : Pl} (Y : List UInt8) (h : rPred l = .ok q r) : rPred (l ++ 32 :: Y) = .ok q (r ++ 32 :: Y) := by
  unfold rPred at h
  split at h
  · cases h
  · rename_i e1
    split at h
    · cases h
    · rename_i e2
      unfold rPred; rw [rWord_app Y e1]; simp only [rBegin_app _ e2]; exact rAsk_app Y h
theorem rThis_end {w l r : List UInt8} (h : rThis w l = .fail true r) : l.dropWhile isBlank = [] ∧ r = [] := by
  unfold rThis at h
  split at h
  · split at h <;> cases h
  · rename_i e
    cases h
    unfold rWord at e
    split at e
    · rename_i e'; cases e; exact ⟨e', rfl⟩
    · split at e <;> cases e
/-- Fuel that is enough is as good as any other. -/
theorem rFil_fuel (l : List UInt8) : ∀ n m acc, l.length < n → l.length < m → rFil n acc l = rFil m acc l := by
  induction hn : l.length using Nat.strongRecOn generalizing l with
  | _ k ih =>
    intro n m acc h1 h2
    obtain ⟨n, rfl⟩ : ∃ n', n = n' + 1 := ⟨n - 1, by omega⟩
    obtain ⟨m, rfl⟩ : ∃ m', m = m' + 1 := ⟨m - 1, by omega⟩
    unfold rFil
    cases e : rPred l with
    | fail => rfl
    | ok q r =>
      have hl := rPred_len e
      simp only
      have hs := suf_len (rThis_suf [97, 110, 100] r)
      cases e2 : rThis [97, 110, 100] r with
      | fail b r' => cases b <;> rfl
      | ok u r' =>
        rw [e2] at hs
        simp only [Ps.left] at hs
        simp only
        exact ih r'.length (by omega) r' rfl n m _ (by omega) (by omega)
/-- A filter's text, ' and ' and more behind it: its predicates, and then those of what follows. -/
theorem rFil_app (Z : List UInt8) : ∀ n acc a ps r, rFil n acc a = .ok ps r → ∀ N, (a ++ 32 :: 97 :: 110 :: 100 :: 32 :: Z).length < N → rFil N acc (a ++ 32 :: 97 :: 110 :: 100 :: 32 :: Z) = rFil ((32 :: Z).length + 1) ps (32 :: Z) := by
  intro n
  induction n with
  | zero => intro acc a ps r h; unfold rFil at h; cases h
  | succ n ih =>
    intro acc a ps r h N hN
    obtain ⟨N, rfl⟩ : ∃ N', N = N' + 1 := ⟨N - 1, by omega⟩
    unfold rFil at h
    cases e : rPred a with
    | fail => rw [e] at h; cases h
    | ok q r1 =>
      rw [e] at h
      simp only at h
      have e' := rPred_app (97 :: 110 :: 100 :: 32 :: Z) e
      have hl := rPred_len e'
      conv => lhs; unfold rFil
      rw [e']
      simp only
      cases e2 : rThis [97, 110, 100] r1 with
      | fail b r2 =>
        rw [e2] at h
        cases b with
        | false => cases h
        | true =>
          simp only at h
          cases h
          have e3 := (rThis_end e2).1
          have e4 : rThis [97, 110, 100] (r1 ++ 32 :: 97 :: 110 :: 100 :: 32 :: Z) = .ok () (32 :: Z) := by
            have hb := blank_nil (32 :: 97 :: 110 :: 100 :: 32 :: Z) e3
            have hw : rWord (r1 ++ 32 :: 97 :: 110 :: 100 :: 32 :: Z) = .ok [97, 110, 100] (32 :: Z) := by
              unfold rWord; rw [hb]; rfl
            unfold rThis; rw [hw]; simp
          rw [e4]
          simp only
          exact rFil_fuel (32 :: Z) _ _ _ (by simp at hl hN ⊢; omega) (by omega)
      | ok u r2 =>
        rw [e2] at h
        simp only at h
        have e4 := rThis_app (97 :: 110 :: 100 :: 32 :: Z) e2
        rw [e4]
        simp only
        have hs := suf_len (rThis_suf [97, 110, 100] (r1 ++ 32 :: 97 :: 110 :: 100 :: 32 :: Z))
        rw [e4] at hs
        simp only [Ps.left] at hs
        exact ih _ _ _ _ h N (by omega)
theorem pars_app {a Z : List UInt8} {ps : List Pl} {r : List UInt8} (h : pars a = .ok ps r) : pars (a ++ 32 :: 97 :: 110 :: 100 :: 32 :: Z) = rFil ((32 :: Z).length + 1) ps (32 :: Z) :=
  rFil_app Z _ _ _ _ _ h _ (by omega)
theorem fil_pos {n : Nat} {acc ps : List Pl} {l r : List UInt8} (h : rFil n acc l = .ok ps r) : 1 ≤ ps.length := by
  induction n generalizing acc l with
  | zero => unfold rFil at h; cases h
  | succ n ih =>
    unfold rFil at h
    split at h
    · cases h
    · split at h
      · cases h; simp
      · cases h
      · exact ih h
end Go.Proofs.YtkncpojijfeahaaGreatDoor
