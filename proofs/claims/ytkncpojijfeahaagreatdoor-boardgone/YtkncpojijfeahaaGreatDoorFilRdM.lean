/- What is read can be printed. No program in sight. -/
import Derived.Test.YtkncpojijfeahaaGreatDoorFilPrt2
import Derived.Test.YtkncpojijfeahaaGreatDoorRefPs
namespace Go.Proofs.YtkncpojijfeahaaGreatDoor
open Go.RowKit
set_option linter.unusedVariables false

theorem len_dec (u : Nat) (h : (Lib.decDigits u).length ≤ 10) : u ≤ 9999999999 := by
  rw [Lib.decDigits_length] at h
  have key : ∀ k u, Lib.nDigits u ≤ k → u < 10 ^ k := by
    intro k
    induction k with
    | zero => intro u h1; unfold Lib.nDigits at h1; split at h1 <;> omega
    | succ k ih =>
      intro u h1
      unfold Lib.nDigits at h1
      rw [Nat.pow_succ]
      split at h1
      · have : 0 < 10 ^ k := Nat.pow_pos (by omega)
        omega
      · have := ih (u / 10) (by omega)
        omega
  have := key 10 u h
  have e : (10 : Nat) ^ 10 = 10000000000 := by decide
  omega
theorem nSign_len (l : List UInt8) : (nSign l = []) ∨ ∃ c, nSign l = [c] ∧ c.toNat = 45 := by
  cases l with
  | nil => exact Or.inl rfl
  | cons c r =>
    unfold nSign
    simp only
    split
    · exact Or.inr ⟨c, rfl, by assumption⟩
    · exact Or.inl rfl
theorem num_rng {l r : List UInt8} {v : Int} (h : rNumber l = .ok v r) : -9999999999 ≤ v ∧ v ≤ 9999999999 := by
  unfold rNumber at h
  split at h
  · cases h
  · rename_i c q _
    split at h
    · rename_i v' _
      split at h
      · rename_i hc
        cases h
        obtain ⟨h1, h2⟩ := hc
        by_cases hneg : v < 0
        · obtain ⟨u, rfl⟩ : ∃ u : Nat, v = -(u : Int) := ⟨v.natAbs, by omega⟩
          rw [Lib.itoa_neg u (by omega)] at h2
          have h3 := congrArg List.length h2
          rw [List.length_append] at h3
          have h4 : (nSign (c :: q)).length ≤ 1 := by rcases nSign_len (c :: q) with e | ⟨d, e, _⟩ <;> rw [e] <;> simp
          have h5 := len_dec u (by simp at h3; omega)
          omega
        · obtain ⟨u, rfl⟩ : ∃ u : Nat, v = (u : Int) := ⟨v.toNat, by omega⟩
          rw [Lib.itoa_nonneg] at h2
          rcases nSign_len (c :: q) with e | ⟨d, e, hd⟩
          · rw [e, List.nil_append] at h2
            have h5 := len_dec u (by rw [h2]; exact h1)
            omega
          · obtain ⟨c', r', e', hc1, _⟩ := decD_head u
            rw [e, e'] at h2
            simp at h2
            have := h2.1
            subst this
            omega
      · cases h
    · cases h
theorem chars_pr (l : List UInt8) : ∀ (acc t r : List UInt8), rChars acc l = .ok t r → (∀ c ∈ acc, 32 ≤ c.toNat ∧ c.toNat ≤ 126) → (∀ c ∈ t, 32 ≤ c.toNat ∧ c.toNat ≤ 126) ∧ t.length ≤ acc.length + l.length := by
  induction hn : l.length using Nat.strongRecOn generalizing l with
  | _ n ih =>
    intro acc t r' h ha
    cases l with
    | nil => unfold rChars at h; cases h
    | cons c r =>
      have hl : n = r.length + 1 := by rw [← hn]; rfl
      unfold rChars at h
      split at h
      · cases h; exact ⟨ha, by omega⟩
      · split at h
        · cases h
        · rename_i hc
          split at h
          · cases r with
            | nil => cases h
            | cons d r2 =>
              simp only at h
              split at h
              · rename_i hd
                have hd' : 32 ≤ d.toNat ∧ d.toNat ≤ 126 := by unfold isSign at hd; simp at hd; omega
                have := ih r2.length (by simp at hl; omega) r2 rfl (acc ++ [d]) t r' h (fun x hx => by
                  rcases List.mem_append.1 hx with hx | hx
                  · exact ha x hx
                  · simp at hx; subst hx; exact hd')
                refine ⟨this.1, ?_⟩
                have h2 := this.2
                simp at h2 hl
                omega
              · cases h
          · have := ih r.length (by omega) r rfl (acc ++ [c]) t r' h (fun x hx => by
              rcases List.mem_append.1 hx with hx | hx
              · exact ha x hx
              · simp at hx; subst hx; omega)
            refine ⟨this.1, ?_⟩
            have h2 := this.2
            simp at h2
            omega
theorem str_pr {l t r : List UInt8} (h : rStr l = .ok t r) : (∀ c ∈ t, 32 ≤ c.toNat ∧ c.toNat ≤ 126) ∧ t.length ≤ l.length := by
  have hs := rMark_suf [34] l
  unfold rStr at h
  split at h
  · rename_i e
    rw [e] at hs
    have h1 := chars_pr _ [] t r h (by simp)
    have h2 := hs.length_le
    refine ⟨h1.1, ?_⟩
    have h3 := h1.2
    simp [Ps.left] at h2 h3
    omega
  · cases h
theorem mstr_pr {m l t r : List UInt8} (h : rMarkStr m l = .ok t r) : (∀ c ∈ t, 32 ≤ c.toNat ∧ c.toNat ≤ 126) ∧ t.length ≤ l.length := by
  have hs := rMark_suf m l
  unfold rMarkStr at h
  split at h
  · rename_i e
    rw [e] at hs
    have h1 := str_pr h
    have h2 := hs.length_le
    exact ⟨h1.1, Nat.le_trans h1.2 h2⟩
  · cases h
theorem nums_rng {l r : List UInt8} {v : Int × Int} (h : rNums l = .ok v r) : -9999999999 ≤ v.1 ∧ v.1 ≤ 9999999999 ∧ -9999999999 ≤ v.2 ∧ v.2 ≤ 9999999999 := by
  unfold rNums at h
  split at h
  · cases h
  · split at h
    · cases h
    · rename_i e1
      split at h
      · cases h
      · split at h
        · cases h
        · rename_i e2
          cases h
          have h1 := num_rng e1
          have h2 := num_rng e2
          exact ⟨h1.1, h1.2, h2.1, h2.2⟩
theorem mem_tw : ∀ (l : List UInt8) (x : UInt8), x ∈ l.takeWhile alnum → alnum x = true
  | [], x, h => by simp at h
  | c :: r, x, h => by
    cases hc : alnum c with
    | false => rw [List.takeWhile_cons_of_neg (by rw [hc]; simp)] at h; simp at h
    | true =>
      rw [List.takeWhile_cons_of_pos hc] at h
      rcases List.mem_cons.1 h with h | h
      · rw [h]; exact hc
      · exact mem_tw r x h
theorem word_nm {l nm r : List UInt8} (h : rWord l = .ok nm r) : (∃ c q, nm = c :: q ∧ isLetter c = true) ∧ (∀ c ∈ nm, alnum c = true) ∧ nm.length ≤ l.length := by
  have hd : (l.dropWhile isBlank).length ≤ l.length := (List.dropWhile_suffix _).length_le
  unfold rWord at h
  split at h
  · cases h
  · rename_i c q e
    rw [e] at hd
    split at h
    · rename_i hc
      cases h
      have ha : alnum c = true := by unfold alnum; rw [hc]; rfl
      refine ⟨⟨c, q.takeWhile alnum, by simp [List.takeWhile, ha], hc⟩, fun x hx => mem_tw _ x hx, ?_⟩
      exact Nat.le_trans (List.takeWhile_prefix alnum).length_le hd
    · cases h
theorem ask_prn {nm l r : List UInt8} {q : Pl} (h : rAsk nm l = .ok q r) (hl : l.length ≤ 1000) (n0 : ∃ c q, nm = c :: q ∧ isLetter c = true) (n1 : ∀ c ∈ nm, alnum c = true) (n2 : nm.length ≤ 1000) : PrnL q := by
  cases l with
  | nil => unfold rAsk at h; cases h
  | cons c r0 =>
    unfold rAsk at h
    simp only at h
    split at h
    · split at h
      · rename_i e
        cases h
        have h1 := mstr_pr e
        exact ⟨⟨n0, n1, Or.inr ⟨Or.inl rfl, rfl, rfl, h1.1⟩⟩, n2, Nat.le_trans h1.2 hl⟩
      · cases h
    · split at h
      · split at h
        · rename_i e
          cases h
          have h1 := mstr_pr e
          exact ⟨⟨n0, n1, Or.inr ⟨Or.inr rfl, rfl, rfl, h1.1⟩⟩, n2, Nat.le_trans h1.2 hl⟩
        · cases h
      · split at h
        · rename_i e
          cases h
          have h1 := nums_rng e
          exact ⟨⟨n0, n1, Or.inl ⟨rfl, h1.1, h1.2.1, h1.2.2.1, h1.2.2.2, rfl⟩⟩, n2, by simp⟩
        · cases h
theorem pred_prn {l r : List UInt8} {q : Pl} (h : rPred l = .ok q r) (hl : l.length ≤ 1000) : PrnL q := by
  have hw := rWord_suf l
  unfold rPred at h
  split at h
  · cases h
  · rename_i nm r1 e1
    rw [e1] at hw
    have hb := rBegin_suf r1
    split at h
    · cases h
    · rename_i u r2 e2
      rw [e2] at hb
      have h1 := word_nm e1
      exact ask_prn h (Nat.le_trans (hb.trans hw).length_le hl) h1.1 h1.2.1 (Nat.le_trans h1.2.2 hl)
theorem fil_prn : ∀ (n : Nat) (acc : List Pl) (l r : List UInt8) (ps : List Pl), rFil n acc l = .ok ps r → l.length ≤ 1000 → (∀ p ∈ acc, PrnL p) → ∀ p ∈ ps, PrnL p := by
  intro n
  induction n with
  | zero => intro acc l r ps h; unfold rFil at h; cases h
  | succ n ih =>
    intro acc l r ps h hl ha
    unfold rFil at h
    have hs := rPred_suf l
    split at h
    · cases h
    · rename_i q r1 e1
      rw [e1] at hs
      have hq := pred_prn e1 hl
      have ha' : ∀ p ∈ acc ++ [q], PrnL p := fun p hp => by
        rcases List.mem_append.1 hp with hp | hp
        · exact ha p hp
        · simp at hp; subst hp; exact hq
      have ht := rThis_suf [97, 110, 100] r1
      split at h
      · cases h; exact ha'
      · cases h
      · rename_i u r2 e2
        rw [e2] at ht
        exact ih _ _ _ _ h (Nat.le_trans (ht.trans hs).length_le hl) ha'
theorem pars_prn {l r : List UInt8} {ps : List Pl} (h : pars l = .ok ps r) (hl : l.length ≤ 1000) : ∀ p ∈ ps, PrnL p :=
  fil_prn _ _ _ _ _ h hl (by simp)
end Go.Proofs.YtkncpojijfeahaaGreatDoor
