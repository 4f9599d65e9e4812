/- A filter's text with blanks ahead of it and behind it, or with a byte behind it. No program in sight. -/
import Derived.Test.YtkjggffignlnjaaDoorFilPure
namespace Go.Proofs.YtkjggffignlnjaaDoor
open Go.RowKit
set_option linter.unusedVariables false

def bl (k : Nat) : List UInt8 := List.replicate k 32
theorem bl_succ (k : Nat) : bl (k + 1) = 32 :: bl k := by unfold bl; rw [List.replicate_succ]
theorem bl_drop0 (k : Nat) : (bl k).dropWhile isBlank = [] := by
  induction k with
  | zero => rfl
  | succ k ih => rw [bl_succ, List.dropWhile_cons, if_pos (by decide)]; exact ih
theorem bl_drop (k : Nat) : (32 :: bl k).dropWhile isBlank = [] := by rw [← bl_succ]; exact bl_drop0 _
theorem rBegin_fb {l r : List UInt8} {b : Bool} (h : rBegin l = .fail b r) (k : Nat) : ∃ b r', rBegin (l ++ 32 :: bl k) = .fail b r' := by
  unfold rBegin at h
  split at h
  · rename_i e; exact ⟨true, [], by unfold rBegin; rw [blank_nil _ e, bl_drop]⟩
  · cases h
theorem rWord_fb {l r : List UInt8} {b : Bool} (h : rWord l = .fail b r) (k : Nat) : ∃ r', rWord (l ++ 32 :: bl k) = .fail b r' := by
  unfold rWord at h
  split at h
  · rename_i e; cases h; exact ⟨[], by unfold rWord; rw [blank_nil _ e, bl_drop]⟩
  · rename_i c r1 e
    split at h
    · cases h
    · rename_i hc; cases h; exact ⟨c :: (r1 ++ 32 :: bl k), by unfold rWord; rw [blank_app _ e]; simp only; rw [if_neg hc]⟩
theorem rThis_fb {w l r : List UInt8} {b : Bool} (h : rThis w l = .fail b r) (k : Nat) : ∃ r', rThis w (l ++ 32 :: bl k) = .fail b r' := by
  unfold rThis at h
  split at h
  · rename_i v r1 e
    split at h
    · cases h
    · rename_i hv; cases h; exact ⟨v ++ (r1 ++ 32 :: bl k), by unfold rThis; rw [rWord_app _ e]; simp only; rw [if_neg hv]⟩
  · rename_i e1; cases h; obtain ⟨r', e'⟩ := rWord_fb e1 k; exact ⟨r', by unfold rThis; rw [e']⟩
theorem pre_bl {m x Y : List UInt8} (hm : (32 : UInt8) ∉ m) (h : m <+: x ++ 32 :: Y) : m <+: x := by
  rcases Nat.lt_or_ge x.length m.length with q | q
  · exfalso
    obtain ⟨t, ht⟩ := h
    have e : (m ++ t)[x.length]? = some 32 := by rw [ht]; simp
    rw [List.getElem?_append_left q] at e
    exact hm (List.mem_of_getElem? e)
  · exact List.prefix_of_prefix_length_le h (List.prefix_append x _) q
theorem rMark_fb {m l r : List UInt8} {b : Bool} (hm : (32 : UInt8) ∉ m) (h : rMark m l = .fail b r) (k : Nat) : ∃ b r', rMark m (l ++ 32 :: bl k) = .fail b r' := by
  unfold rMark at h
  split at h
  · rename_i e; exact ⟨true, [], by unfold rMark; rw [blank_nil _ e, bl_drop]⟩
  · rename_i c r1 e
    split at h
    · cases h
    · rename_i hc
      have hc' : ¬ m <+: c :: (r1 ++ 32 :: bl k) := fun q => hc (pre_bl hm (Y := bl k) (by rw [List.cons_append]; exact q))
      exact ⟨false, c :: (r1 ++ 32 :: bl k), by unfold rMark; rw [blank_app _ e]; simp only; rw [if_neg hc']⟩
theorem rNumber_fb {l r : List UInt8} {b : Bool} (h : rNumber l = .fail b r) (k : Nat) : ∃ b r', rNumber (l ++ 32 :: bl k) = .fail b r' := by
  unfold rNumber at h
  split at h
  · rename_i e; exact ⟨true, [], by unfold rNumber; rw [blank_nil _ e, bl_drop]⟩
  · rename_i c r' e
    have hs := nSign_app c r' (32 :: bl k)
    have hsl : (nSign (c :: r')).length ≤ (c :: r').length := by unfold nSign; simp only; split <;> simp
    obtain ⟨t1, t2⟩ := tw_app isDigit rfl ((c :: r').drop (nSign (c :: r')).length) (bl k)
    have hd : nDigits (c :: (r' ++ 32 :: bl k)) = nDigits (c :: r') := by
      unfold nDigits; rw [hs, ← List.cons_append, List.drop_append_of_le_length hsl, t1]
    refine ⟨false, c :: (r' ++ 32 :: bl k), ?_⟩
    unfold rNumber; rw [blank_app _ e]
    simp only [hs, hd]
    split at h
    · rename_i v ea
      split at h
      · cases h
      · rename_i hc
        rw [if_neg hc]
    · rfl
theorem chars_bl (k : Nat) : ∀ acc, rChars acc (bl k) = .fail true [] := by
  induction k with
  | zero => intro acc; unfold bl; unfold rChars; rfl
  | succ k ih => intro acc; rw [bl_succ, chars_go _ _ _ (by decide) (by decide) (by decide)]; exact ih _
theorem rChars_fb (k : Nat) (l : List UInt8) : ∀ acc b r, rChars acc l = .fail b r → ∃ b r', rChars acc (l ++ 32 :: bl k) = .fail b r' := by
  induction hn : l.length using Nat.strongRecOn generalizing l with
  | _ n ih =>
    intro acc b r h
    cases l with
    | nil => exact ⟨true, [], by rw [List.nil_append, ← bl_succ]; exact chars_bl _ _⟩
    | cons c l =>
      have hl : n = l.length + 1 := by rw [← hn]; rfl
      rw [List.cons_append]
      by_cases h1 : c.toNat = 34
      · rw [chars_q _ _ _ h1] at h; cases h
      · by_cases h2 : c.toNat < 32 ∨ 126 < c.toNat
        · exact ⟨_, _, chars_bad _ _ _ h2⟩
        · by_cases h3 : c.toNat = 92
          · cases l with
            | nil => exact ⟨_, _, chars_esc_bad _ _ _ _ h3 (by decide)⟩
            | cons d l' =>
              rw [List.cons_append]
              cases hd : isSign d with
              | false => exact ⟨_, _, chars_esc_bad _ _ _ _ h3 hd⟩
              | true =>
                rw [chars_esc _ _ _ _ h3 hd] at h ⊢
                exact ih l'.length (by simp at hl; omega) l' rfl _ _ _ h
          · rw [chars_go _ _ _ h1 h2 h3] at h ⊢
            exact ih l.length (by omega) l rfl _ _ _ h
theorem rStr_fb {l r : List UInt8} {b : Bool} (h : rStr l = .fail b r) (k : Nat) : ∃ b r', rStr (l ++ 32 :: bl k) = .fail b r' := by
  unfold rStr at h
  split at h
  · rename_i e; unfold rStr; rw [rMark_app _ e]; exact rChars_fb k _ _ _ _ h
  · rename_i e; obtain ⟨b', r', e'⟩ := rMark_fb (by decide) e k; exact ⟨b', r', by unfold rStr; rw [e']⟩
theorem rMarkStr_fb {m l r : List UInt8} {b : Bool} (hm : (32 : UInt8) ∉ m) (h : rMarkStr m l = .fail b r) (k : Nat) : ∃ b r', rMarkStr m (l ++ 32 :: bl k) = .fail b r' := by
  unfold rMarkStr at h
  split at h
  · rename_i e; unfold rMarkStr; rw [rMark_app _ e]; exact rStr_fb h k
  · rename_i e; obtain ⟨b', r', e'⟩ := rMark_fb hm e k; exact ⟨b', r', by unfold rMarkStr; rw [e']⟩
theorem rNums_fb {l r : List UInt8} {b : Bool} (h : rNums l = .fail b r) (k : Nat) : ∃ b r', rNums (l ++ 32 :: bl k) = .fail b r' := by
  unfold rNums at h
  split at h
  · rename_i e1; obtain ⟨r', e'⟩ := rThis_fb e1 k; exact ⟨_, r', by unfold rNums; rw [e']⟩
  · rename_i e1
    split at h
    · rename_i e2; obtain ⟨b', r', e'⟩ := rNumber_fb e2 k; exact ⟨b', r', by unfold rNums; rw [rThis_app _ e1]; simp only [e']⟩
    · rename_i e2
      split at h
      · rename_i e3; obtain ⟨b', r', e'⟩ := rMark_fb (by decide) e3 k; exact ⟨b', r', by unfold rNums; rw [rThis_app _ e1]; simp only [rNumber_app _ e2, e']⟩
      · rename_i e3
        split at h
        · rename_i e4; obtain ⟨b', r', e'⟩ := rNumber_fb e4 k; exact ⟨b', r', by unfold rNums; rw [rThis_app _ e1]; simp only [rNumber_app _ e2, rMark_app _ e3, e']⟩
        · cases h
theorem rAsk_fb {nm l r : List UInt8} {b : Bool} (hl : l ≠ []) (h : rAsk nm l = .fail b r) (k : Nat) : ∃ b r', rAsk nm (l ++ 32 :: bl k) = .fail b r' := by
  cases l with
  | nil => exact absurd rfl hl
  | cons c l =>
    unfold rAsk at h
    simp only at h
    by_cases hc : c.toNat = 61
    · rw [if_pos hc] at h
      split at h
      · cases h
      · rename_i e
        obtain ⟨b', r', e'⟩ := rMarkStr_fb (by decide) e k
        rw [List.cons_append] at e' ⊢
        exact ⟨b', r', by unfold rAsk; simp only; rw [if_pos hc, e']⟩
    · rw [if_neg hc] at h
      by_cases hc2 : c.toNat = 94
      · rw [if_pos hc2] at h
        split at h
        · cases h
        · rename_i e
          obtain ⟨b', r', e'⟩ := rMarkStr_fb (by decide) e k
          rw [List.cons_append] at e' ⊢
          exact ⟨b', r', by unfold rAsk; simp only; rw [if_neg hc, if_pos hc2, e']⟩
      · rw [if_neg hc2] at h
        split at h
        · cases h
        · rename_i e
          obtain ⟨b', r', e'⟩ := rNums_fb e k
          rw [List.cons_append] at e' ⊢
          exact ⟨b', r', by unfold rAsk; simp only; rw [if_neg hc, if_neg hc2, e']⟩
theorem rPred_fb {l r : List UInt8} {b : Bool} (h : rPred l = .fail b r) (k : Nat) : ∃ b r', rPred (l ++ 32 :: bl k) = .fail b r' := by
  unfold rPred at h
  split at h
  · rename_i e; obtain ⟨r', e'⟩ := rWord_fb e k; exact ⟨_, r', by unfold rPred; rw [e']⟩
  · rename_i e1
    split at h
    · rename_i e2; obtain ⟨b', r', e'⟩ := rBegin_fb e2 k; exact ⟨b', r', by unfold rPred; rw [rWord_app _ e1]; simp only [e']⟩
    · rename_i e2
      obtain ⟨b', r', e'⟩ := rAsk_fb (rBegin_ok e2).2 h k
      exact ⟨b', r', by unfold rPred; rw [rWord_app _ e1]; simp only [rBegin_app _ e2, e']⟩
/-- Blanks behind a filter's text, or behind one that isn't one. -/
theorem rFil_ob (k : Nat) : ∀ n acc l ps r, rFil n acc l = .ok ps r → ∀ N, (l ++ 32 :: bl k).length < N → ∃ r', rFil N acc (l ++ 32 :: bl k) = .ok ps r' := by
  intro n
  induction n with
  | zero => intro acc l ps r h; unfold rFil at h; cases h
  | succ n ih =>
    intro acc l ps r h N hN
    obtain ⟨N, rfl⟩ : ∃ N', N = N' + 1 := ⟨N - 1, by omega⟩
    unfold rFil at h ⊢
    cases e : rPred l with
    | fail => rw [e] at h; cases h
    | ok q r1 =>
      rw [e] at h
      have e' := rPred_app (bl k) e
      have hl := rPred_len e'
      rw [e']
      simp only at h ⊢
      cases e2 : rThis [97, 110, 100] r1 with
      | fail b r2 =>
        rw [e2] at h
        obtain ⟨r3, e3⟩ := rThis_fb e2 k
        rw [e3]
        cases b with
        | false => cases h
        | true => simp only at h ⊢; cases h; exact ⟨_, rfl⟩
      | ok u r2 =>
        rw [e2] at h
        have e3 := rThis_app (bl k) e2
        rw [e3]
        simp only at h ⊢
        have hs := suf_len (rThis_suf [97, 110, 100] (r1 ++ 32 :: bl k))
        rw [e3] at hs
        simp only [Ps.left] at hs
        exact ih _ _ _ _ h N (by omega)
theorem rFil_fb (k : Nat) : ∀ n acc l b r, l.length < n → rFil n acc l = .fail b r → ∀ N, (l ++ 32 :: bl k).length < N → ∃ b r', rFil N acc (l ++ 32 :: bl k) = .fail b r' := by
  intro n
  induction n with
  | zero => intro acc l b r hn; omega
  | succ n ih =>
    intro acc l b r hn h N hN
    obtain ⟨N, rfl⟩ : ∃ N', N = N' + 1 := ⟨N - 1, by omega⟩
    unfold rFil at h ⊢
    cases e : rPred l with
    | fail =>
      obtain ⟨b', r', e'⟩ := rPred_fb e k
      rw [e']; exact ⟨_, _, rfl⟩
    | ok q r1 =>
      rw [e] at h
      have hl0 := rPred_len e
      have e' := rPred_app (bl k) e
      have hl := rPred_len e'
      rw [e']
      simp only at h ⊢
      cases e2 : rThis [97, 110, 100] r1 with
      | fail b r2 =>
        rw [e2] at h
        obtain ⟨r3, e3⟩ := rThis_fb e2 k
        rw [e3]
        cases b with
        | false => exact ⟨_, _, rfl⟩
        | true => simp only at h; cases h
      | ok u r2 =>
        rw [e2] at h
        have e3 := rThis_app (bl k) e2
        rw [e3]
        simp only at h ⊢
        have hs := suf_len (rThis_suf [97, 110, 100] (r1 ++ 32 :: bl k))
        rw [e3] at hs
        have hs0 := suf_len (rThis_suf [97, 110, 100] r1)
        rw [e2] at hs0
        simp only [Ps.left] at hs hs0
        exact ih _ _ _ _ (by omega) h N (by omega)
/-- Another byte behind a blank behind a filter's text: no filter. -/
theorem rFil_bad (c : UInt8) (hc : isBlank c = false) : ∀ n acc l ps r, rFil n acc l = .ok ps r → ∀ N, (l ++ [32, c]).length < N → ∃ b r', rFil N acc (l ++ [32, c]) = .fail b r' := by
  intro n
  induction n with
  | zero => intro acc l ps r h; unfold rFil at h; cases h
  | succ n ih =>
    intro acc l ps r h N hN
    obtain ⟨N, rfl⟩ : ∃ N', N = N' + 1 := ⟨N - 1, by omega⟩
    unfold rFil at h ⊢
    cases e : rPred l with
    | fail => rw [e] at h; cases h
    | ok q r1 =>
      rw [e] at h
      have e' := rPred_app [c] e
      have hl := rPred_len e'
      rw [e']
      simp only at h ⊢
      cases e2 : rThis [97, 110, 100] r1 with
      | fail b r2 =>
        rw [e2] at h
        cases b with
        | false => cases h
        | true =>
          have e3 := (rThis_end e2).1
          have e4 : ∃ r', rThis [97, 110, 100] (r1 ++ [32, c]) = .fail false r' := by
            have hb := blank_nil [32, c] e3
            have hd : [32, c].dropWhile isBlank = [c] := by rw [List.dropWhile_cons, if_pos (by decide), List.dropWhile_cons, hc]; rfl
            rw [hd] at hb
            by_cases hcl : isLetter c = true
            · have hw : rWord (r1 ++ [32, c]) = .ok ([c].takeWhile alnum) ([c].dropWhile alnum) := by unfold rWord; rw [hb]; simp only; rw [if_pos hcl]
              refine ⟨[c].takeWhile alnum ++ [c].dropWhile alnum, ?_⟩
              unfold rThis; rw [hw]; simp only
              rw [if_neg (fun q => by
                have q2 := congrArg List.length q
                have q3 := (List.takeWhile_prefix (p := alnum) (l := [c])).length_le
                simp only [List.length_cons, List.length_nil] at q2 q3
                omega)]
            · have hw : rWord (r1 ++ [32, c]) = .fail false [c] := by unfold rWord; rw [hb]; simp only; rw [if_neg hcl]
              exact ⟨[c], by unfold rThis; rw [hw]⟩
          obtain ⟨r', e4⟩ := e4
          rw [e4]
          exact ⟨_, _, rfl⟩
      | ok u r2 =>
        rw [e2] at h
        have e3 := rThis_app [c] e2
        rw [e3]
        simp only at h ⊢
        have hs := suf_len (rThis_suf [97, 110, 100] (r1 ++ [32, c]))
        rw [e3] at hs
        simp only [Ps.left] at hs
        exact ih _ _ _ _ h N (by omega)
theorem rPred_bl (l : List UInt8) : rPred (32 :: l) = rPred l := by
  have e : rWord (32 :: l) = rWord l := by
    have : (32 :: l).dropWhile isBlank = l.dropWhile isBlank := by rw [List.dropWhile_cons, if_pos (by decide)]
    unfold rWord; rw [this]
  unfold rPred; rw [e]
theorem rFil_ahead (k n : Nat) (acc : List Pl) (l : List UInt8) : rFil (n + 1) acc (bl k ++ l) = rFil (n + 1) acc l := by
  induction k with
  | zero => rfl
  | succ k ih => rw [bl_succ, List.cons_append, rFil, rPred_bl, ← rFil, ih]
theorem bl_len (k : Nat) : (bl k).length = k := by unfold bl; simp
theorem pars_ahead (k : Nat) (l : List UInt8) : pars (bl k ++ l) = pars l := by
  unfold pars
  rw [rFil_ahead, rFil_fuel l _ (l.length + 1) _ (by simp only [List.length_append]; omega) (by omega)]
theorem pars_ob (k : Nat) {l r : List UInt8} {ps : List Pl} (h : pars l = .ok ps r) : ∃ r', pars (bl k ++ (l ++ bl k)) = .ok ps r' := by
  rw [pars_ahead]
  cases k with
  | zero => exact ⟨r, by simpa [bl] using h⟩
  | succ k => rw [bl_succ]; exact rFil_ob k _ _ _ _ _ h _ (by omega)
theorem pars_fb (k : Nat) {l r : List UInt8} {b : Bool} (h : pars l = .fail b r) : ∃ b' r', pars (bl k ++ (l ++ bl k)) = .fail b' r' := by
  rw [pars_ahead]
  cases k with
  | zero => exact ⟨b, r, by simpa [bl] using h⟩
  | succ k => rw [bl_succ]; exact rFil_fb k _ _ _ _ _ (by omega) h _ (by omega)
theorem pars_bad (c : UInt8) (hc : c.toNat ≠ 32) {l r : List UInt8} {ps : List Pl} (h : pars l = .ok ps r) : ∃ b' r', pars (l ++ [32, c]) = .fail b' r' :=
  rFil_bad c (by unfold isBlank; simpa using hc) _ _ _ _ _ h _ (by omega)
theorem pars_num {l r : List UInt8} {qs : List Pl} (h : pars l = .ok qs r) : qs.length ≤ l.length + 1 := by
  have key : ∀ n acc l qs r, rFil n acc l = .ok qs r → qs.length ≤ acc.length + n := by
    intro n
    induction n with
    | zero => intro acc l qs r h; unfold rFil at h; cases h
    | succ n ih =>
      intro acc l qs r h
      unfold rFil at h
      split at h
      · cases h
      · split at h
        · cases h; simp
        · cases h
        · have := ih _ _ _ _ h; simp at this; omega
  have := key _ _ _ _ _ h
  simpa using this
end Go.Proofs.YtkjggffignlnjaaDoor
