/- Filters as texts, as lists of bytes: what is printed is read again. No program's walk in sight. -/
import Derived.Test.YtkncpojijfeahaaGreatDoorFilPure
namespace Go.Proofs.YtkncpojijfeahaaGreatDoor
open Go.RowKit
set_option linter.unusedVariables false
set_option linter.unusedSimpArgs false

theorem dgt_toNat (n : Nat) (h : n < 10) : (UInt8.ofNat (48 + n)).toNat = 48 + n := by
  rw [UInt8.toNat_ofNat']; omega
theorem decD_digit : ∀ (k u : Nat), u ≤ k → ∀ c ∈ Lib.decDigits u, 48 ≤ c.toNat ∧ c.toNat ≤ 57 := by
  intro k
  induction k with
  | zero => intro u h c hc; obtain rfl : u = 0 := by omega
            rw [Lib.decDigits_one (by omega)] at hc
            obtain rfl := List.mem_singleton.1 hc; decide
  | succ k ih =>
    intro u h c hc
    by_cases h1 : u < 10
    · rw [Lib.decDigits_one h1] at hc
      obtain rfl := List.mem_singleton.1 hc
      rw [dgt_toNat u h1]; omega
    · rw [Lib.decDigits, dif_neg h1, List.mem_append] at hc
      rcases hc with hc | hc
      · exact ih (u / 10) (by omega) c hc
      · obtain rfl := List.mem_singleton.1 hc
        rw [dgt_toNat (u % 10) (by omega)]; omega
theorem parse_decD : ∀ (k u : Nat), u ≤ k → u < 1000000000000000 → ∀ r, Lib.parseUint10 0 (Lib.decDigits u ++ r) = Lib.parseUint10 u r := by
  intro k
  induction k with
  | zero => intro u h _ r; obtain rfl : u = 0 := by omega
            rw [Lib.decDigits_one (by omega)]
            rfl
  | succ k ih =>
    intro u h hu r
    by_cases h1 : u < 10
    · rw [Lib.decDigits_one h1]
      show Lib.parseUint10 0 (UInt8.ofNat (48 + u) :: r) = _
      rw [Lib.parseUint10, dgt_toNat u h1, if_pos (by omega), if_neg (by omega), if_neg (by omega)]
      congr 1; omega
    · rw [Lib.decDigits, dif_neg h1, List.append_assoc, ih (u / 10) (by omega) (by omega)]
      show Lib.parseUint10 (u / 10) (UInt8.ofNat (48 + u % 10) :: r) = _
      rw [Lib.parseUint10, dgt_toNat (u % 10) (by omega), if_pos (by omega), if_neg (by omega), if_neg (by omega)]
      congr 1; omega
theorem decD_ne (u : Nat) : Lib.decDigits u ≠ [] := fun h => by
  have := Lib.decDigits_length u
  rw [h] at this
  have h2 : 1 ≤ Lib.nDigits u := by unfold Lib.nDigits; split <;> omega
  simp at this; omega
theorem mag_decD (u : Nat) (h : u < 1000000000000000) : Lib.parseMag (Lib.decDigits u) = .ok u := by
  unfold Lib.parseMag
  rw [if_neg (decD_ne u)]
  have := parse_decD u u (Nat.le_refl _) h []
  rw [List.append_nil] at this
  rw [this]; rfl
theorem decD_head (u : Nat) : ∃ c r, Lib.decDigits u = c :: r ∧ 48 ≤ c.toNat ∧ c.toNat ≤ 57 := by
  have hd := decD_digit u u (Nat.le_refl _)
  cases hl : Lib.decDigits u with
  | nil => exact absurd hl (decD_ne u)
  | cons c r => rw [hl] at hd; exact ⟨c, r, rfl, hd c (by simp)⟩
theorem atoi_itoa (v : Int) (h1 : -9999999999 ≤ v) (h2 : v ≤ 9999999999) : Lib.atoiAll (Lib.itoa v) = .ok v := by
  by_cases hneg : v < 0
  · obtain ⟨u, rfl⟩ : ∃ u : Nat, v = -(u : Int) := ⟨v.natAbs, by omega⟩
    rw [Lib.itoa_neg u (by omega)]
    unfold Lib.atoiAll
    simp only
    have e45 : (45 : UInt8).toNat = 45 := rfl
    rw [e45, if_pos (by omega), mag_decD u (by omega)]
    simp only
    rw [if_neg (by omega), if_neg (by omega), if_pos trivial]
  · obtain ⟨u, rfl⟩ : ∃ u : Nat, v = (u : Int) := ⟨v.toNat, by omega⟩
    rw [Lib.itoa_nonneg]
    obtain ⟨c, r, hl, hc1, hc2⟩ := decD_head u
    have hm := mag_decD u (by omega)
    rw [hl] at hm ⊢
    unfold Lib.atoiAll
    simp only
    rw [if_neg (by omega), hm]
    simp only
    rw [if_neg (by omega), if_neg (by omega), if_neg (by omega)]
theorem decD_len10 (u : Nat) (h : u ≤ 9999999999) : (Lib.decDigits u).length ≤ 10 := by
  rw [Lib.decDigits_length]
  rcases Nat.lt_or_ge 10 (Lib.nDigits u) with q | q
  · exfalso
    have : ∀ k u, u < 10 ^ k → 1 ≤ k → Lib.nDigits u ≤ k := by
      intro k
      induction k with
      | zero => intro u h1 h2; omega
      | succ k ih =>
        intro u h1 _
        unfold Lib.nDigits
        split
        · omega
        · rename_i h10
          by_cases hk : k = 0
          · subst hk; simp at h1; omega
          · have := ih (u / 10) (by rw [Nat.pow_succ] at h1; omega) (by omega)
            omega
    have := this 10 u (by have : (10 : Nat) ^ 10 = 10000000000 := by decide
                          omega) (by omega)
    omega
  · exact q
/-- What begins with no digit. -/
def NoDig : List UInt8 → Prop
  | [] => True
  | c :: _ => isDigit c = false
theorem isDigit_of {c : UInt8} (h : 48 ≤ c.toNat ∧ c.toNat ≤ 57) : isDigit c = true := by unfold isDigit; simp; omega
theorem tw_dig {l r : List UInt8} (h : ∀ c ∈ l, isDigit c = true) (hr : NoDig r) : (l ++ r).takeWhile isDigit = l ∧ (l ++ r).dropWhile isDigit = r := by
  induction l with
  | nil =>
    cases r with
    | nil => exact ⟨rfl, rfl⟩
    | cons c r => have hh : isDigit c = false := hr
                  simp [List.takeWhile, List.dropWhile, hh]
  | cons c l ih =>
    obtain ⟨i1, i2⟩ := ih (fun d hd => h d (by simp [hd]))
    have hc := h c (by simp)
    simp [List.takeWhile, List.dropWhile, hc, i1, i2]
theorem drop_blank0 {c : UInt8} {r : List UInt8} (h : isBlank c = false) : (c :: r).dropWhile isBlank = c :: r := by simp [List.dropWhile, h]
theorem drop_blank1 {r : List UInt8} : (32 :: r).dropWhile isBlank = r.dropWhile isBlank := by
  rw [List.dropWhile_cons_of_pos (by decide)]
theorem num_back (v : Int) (r : List UInt8) (h1 : -9999999999 ≤ v) (h2 : v ≤ 9999999999) (hr : NoDig r) : rNumber (Lib.itoa v ++ r) = .ok v r := by
  have hat := atoi_itoa v h1 h2
  have key : ∃ c q, Lib.itoa v = c :: q ∧ isBlank c = false ∧ nSign (c :: (q ++ r)) ++ nDigits (c :: (q ++ r)) = Lib.itoa v ∧ (nDigits (c :: (q ++ r))).length ≤ 10 ∧ nRest (c :: (q ++ r)) = r := by
    by_cases hneg : v < 0
    · obtain ⟨u, rfl⟩ : ∃ u : Nat, v = -(u : Int) := ⟨v.natAbs, by omega⟩
      rw [Lib.itoa_neg u (by omega)]
      have hd := decD_digit u u (Nat.le_refl _)
      obtain ⟨t1, t2⟩ := tw_dig (l := Lib.decDigits u) (r := r) (fun c hc => isDigit_of (hd c hc)) hr
      have hs : nSign ((45 : UInt8) :: (Lib.decDigits u ++ r)) = [45] := by unfold nSign; exact if_pos rfl
      refine ⟨45, _, rfl, by decide, ?_, ?_, ?_⟩
      · unfold nDigits; rw [hs]; simp [t1]
      · unfold nDigits; rw [hs]; simp [t1]; exact decD_len10 u (by omega)
      · unfold nRest; rw [hs]; simp [t2]
    · obtain ⟨u, rfl⟩ : ∃ u : Nat, v = (u : Int) := ⟨v.toNat, by omega⟩
      rw [Lib.itoa_nonneg]
      have hd := decD_digit u u (Nat.le_refl _)
      obtain ⟨t1, t2⟩ := tw_dig (l := Lib.decDigits u) (r := r) (fun c hc => isDigit_of (hd c hc)) hr
      obtain ⟨c, q, hl, hc1, hc2⟩ := decD_head u
      have hlen := decD_len10 u (by omega)
      rw [hl] at t1 t2 hlen ⊢
      have hs : nSign (c :: (q ++ r)) = [] := by unfold nSign; exact if_neg (by omega)
      refine ⟨c, q, rfl, by unfold isBlank; simp; omega, ?_, ?_, ?_⟩
      · unfold nDigits; rw [hs]; simpa using t1
      · unfold nDigits; rw [hs]; simp only [List.length_nil, List.drop_zero]; rw [show c :: (q ++ r) = c :: q ++ r from rfl, t1]; exact hlen
      · unfold nRest; rw [hs]; simpa using t2
  obtain ⟨c, q, e, hb, k1, k2, k3⟩ := key
  have e2 : Lib.itoa v ++ r = c :: (q ++ r) := by rw [e]; rfl
  rw [e2]
  unfold rNumber
  rw [drop_blank0 hb]
  simp only
  rw [k1, hat]
  simp only
  rw [if_pos ⟨k2, trivial⟩, k3]
theorem num_blank (l : List UInt8) : rNumber (32 :: l) = rNumber l := by unfold rNumber; rw [drop_blank1]
/-- A text between quotes. -/
def qL (s : List UInt8) : List UInt8 := s.flatMap fun c => if isSign c then [92, c] else [c]
theorem qL_nil : qL [] = [] := rfl
theorem qL_cons (c : UInt8) (s : List UInt8) : qL (c :: s) = (if isSign c then [92, c] else [c]) ++ qL s := by unfold qL; simp
theorem qL_snoc (s : List UInt8) (c : UInt8) : qL (s ++ [c]) = qL s ++ (if isSign c then [92, c] else [c]) := by unfold qL; simp
theorem chars_back : ∀ (s acc r : List UInt8), (∀ c ∈ s, 32 ≤ c.toNat ∧ c.toNat ≤ 126) → rChars acc (qL s ++ 34 :: r) = .ok (acc ++ s) r
  | [], acc, r, _ => by rw [qL_nil, List.nil_append, List.append_nil]; exact chars_q acc 34 r rfl
  | c :: s, acc, r, h => by
    have hc := h c (by simp)
    have ih := chars_back s (acc ++ [c]) r (fun d hd => h d (by simp [hd]))
    have e : acc ++ c :: s = acc ++ [c] ++ s := by simp
    rw [qL_cons, e]
    by_cases hs : isSign c = true
    · rw [if_pos hs]
      show rChars acc (92 :: c :: (qL s ++ 34 :: r)) = _
      rw [chars_esc acc 92 c _ rfl hs, ih]
    · rw [if_neg hs]
      show rChars acc (c :: (qL s ++ 34 :: r)) = _
      have h34 : ¬ c.toNat = 34 ∧ ¬ c.toNat = 92 := by
        unfold isSign at hs
        simp at hs
        exact ⟨hs.2, hs.1⟩
      rw [chars_go acc c _ h34.1 (by omega) h34.2, ih]
theorem str_back (s r : List UInt8) (h : ∀ c ∈ s, 32 ≤ c.toNat ∧ c.toNat ≤ 126) : rStr (32 :: 34 :: (qL s ++ 34 :: r)) = .ok s r := by
  unfold rStr rMark
  rw [drop_blank1, drop_blank0 (by decide)]
  simp only
  rw [if_pos ⟨_, rfl⟩]
  have := chars_back s [] r h
  simpa using this
/-- A predicate as a text. -/
def pP (p : Pl) : List UInt8 :=
  if p.op = 1 then p.name ++ [32, 105, 110, 32] ++ Lib.itoa p.lo ++ [46, 46] ++ Lib.itoa p.hi
  else if p.op = 3 then p.name ++ [32, 94, 61, 32] ++ (34 :: (qL p.str ++ [34]))
  else p.name ++ [32, 61, 32] ++ (34 :: (qL p.str ++ [34]))
/-- What can be printed and read again. -/
structure Prn (p : Pl) : Prop where
  n0 : ∃ c r, p.name = c :: r ∧ isLetter c = true
  nm : ∀ c ∈ p.name, alnum c = true
  ch : (p.op = 1 ∧ -9999999999 ≤ p.lo ∧ p.lo ≤ 9999999999 ∧ -9999999999 ≤ p.hi ∧ p.hi ≤ 9999999999 ∧ p.str = []) ∨ ((p.op = 2 ∨ p.op = 3) ∧ p.lo = 0 ∧ p.hi = 0 ∧ ∀ c ∈ p.str, 32 ≤ c.toNat ∧ c.toNat ≤ 126)
theorem tw_al {l r : List UInt8} (h : ∀ c ∈ l, alnum c = true) : (l ++ 32 :: r).takeWhile alnum = l ∧ (l ++ 32 :: r).dropWhile alnum = 32 :: r := by
  induction l with
  | nil => have : alnum 32 = false := by decide
           simp [List.takeWhile, List.dropWhile, this]
  | cons c l ih =>
    obtain ⟨i1, i2⟩ := ih (fun d hd => h d (by simp [hd]))
    have hc := h c (by simp)
    simp [List.takeWhile, List.dropWhile, hc, i1, i2]
theorem letter_blank {c : UInt8} (h : isLetter c = true) : isBlank c = false := by
  unfold isLetter at h; unfold isBlank; simp at *; omega
theorem word_back {n r : List UInt8} (h0 : ∃ c q, n = c :: q ∧ isLetter c = true) (h : ∀ c ∈ n, alnum c = true) : rWord (n ++ 32 :: r) = .ok n (32 :: r) := by
  obtain ⟨c, q, rfl, hc⟩ := h0
  unfold rWord
  have e : (c :: q ++ 32 :: r).dropWhile isBlank = c :: (q ++ 32 :: r) := drop_blank0 (letter_blank hc)
  rw [e]
  simp only
  rw [if_pos hc, show c :: (q ++ 32 :: r) = c :: q ++ 32 :: r from rfl, (tw_al h).1, (tw_al h).2]
theorem pred_back (p : Pl) (r : List UInt8) (h : Prn p) (hr : NoDig r) : rPred (pP p ++ r) = .ok p r := by
  obtain ⟨nm, op, lo, hi, st⟩ := p
  obtain ⟨h0, h1, h2⟩ := h
  simp only at h0 h1 h2
  unfold pP
  simp only
  rcases h2 with ⟨rfl, a1, a2, a3, a4, rfl⟩ | ⟨ho, rfl, rfl, hs⟩
  · rw [if_pos rfl]
    have e : nm ++ [32, 105, 110, 32] ++ Lib.itoa lo ++ [46, 46] ++ Lib.itoa hi ++ r = nm ++ 32 :: (105 :: 110 :: 32 :: (Lib.itoa lo ++ 46 :: 46 :: (Lib.itoa hi ++ r))) := by simp
    rw [e]
    unfold rPred
    rw [word_back h0 h1]
    simp only
    unfold rBegin
    rw [drop_blank1, drop_blank0 (by decide)]
    simp only
    unfold rAsk
    simp only
    rw [if_neg (by decide), if_neg (by decide)]
    have hin : rThis [105, 110] (105 :: 110 :: 32 :: (Lib.itoa lo ++ 46 :: 46 :: (Lib.itoa hi ++ r))) = .ok () (32 :: (Lib.itoa lo ++ 46 :: 46 :: (Lib.itoa hi ++ r))) := by
      unfold rThis
      have := word_back (n := [105, 110]) (r := Lib.itoa lo ++ 46 :: 46 :: (Lib.itoa hi ++ r)) ⟨105, [110], rfl, by decide⟩ (by decide)
      rw [show (105 : UInt8) :: 110 :: 32 :: (Lib.itoa lo ++ 46 :: 46 :: (Lib.itoa hi ++ r)) = [105, 110] ++ 32 :: (Lib.itoa lo ++ 46 :: 46 :: (Lib.itoa hi ++ r)) from rfl, this]
      simp
    have hm : rMark [46, 46] (46 :: 46 :: (Lib.itoa hi ++ r)) = .ok () (Lib.itoa hi ++ r) := by
      unfold rMark
      rw [drop_blank0 (by decide)]
      simp only
      rw [if_pos ⟨_, rfl⟩]; rfl
    unfold rNums
    rw [hin]
    simp only
    rw [num_blank, num_back lo _ a1 a2 (by show isDigit 46 = false; decide)]
    simp only
    rw [hm]
    simp only
    rw [num_back hi r a3 a4 hr]
  · rw [if_neg (by omega)]
    by_cases h3 : op = 3
    · subst h3
      rw [if_pos rfl]
      have e : nm ++ [32, 94, 61, 32] ++ (34 :: (qL st ++ [34])) ++ r = nm ++ 32 :: (94 :: 61 :: 32 :: 34 :: (qL st ++ 34 :: r)) := by simp
      rw [e]
      unfold rPred
      rw [word_back h0 h1]
      simp only
      unfold rBegin
      rw [drop_blank1, drop_blank0 (by decide)]
      simp only
      unfold rAsk
      simp only
      rw [if_neg (by decide), if_pos (by decide)]
      have hm : rMarkStr [94, 61] (94 :: 61 :: 32 :: 34 :: (qL st ++ 34 :: r)) = .ok st r := by
        unfold rMarkStr rMark
        rw [drop_blank0 (by decide)]
        simp only
        rw [if_pos ⟨_, rfl⟩]
        exact str_back st r hs
      rw [hm]
    · obtain rfl : op = 2 := by omega
      rw [if_neg (by omega)]
      have e : nm ++ [32, 61, 32] ++ (34 :: (qL st ++ [34])) ++ r = nm ++ 32 :: (61 :: 32 :: 34 :: (qL st ++ 34 :: r)) := by simp
      rw [e]
      unfold rPred
      rw [word_back h0 h1]
      simp only
      unfold rBegin
      rw [drop_blank1, drop_blank0 (by decide)]
      simp only
      unfold rAsk
      simp only
      rw [if_pos (by decide)]
      have hm : rMarkStr [61] (61 :: 32 :: 34 :: (qL st ++ 34 :: r)) = .ok st r := by
        unfold rMarkStr rMark
        rw [drop_blank0 (by decide)]
        simp only
        rw [if_pos ⟨_, rfl⟩]
        exact str_back st r hs
      rw [hm]
/-- Predicates with the word and between each two. -/
def pF : List Pl → List UInt8
  | [] => []
  | [p] => pP p
  | p :: q :: ps => pP p ++ 32 :: 97 :: 110 :: 100 :: 32 :: pF (q :: ps)
theorem fil_back : ∀ (ps : List Pl), (∀ p ∈ ps, Prn p) → ps ≠ [] → ∀ N acc, ps.length ≤ N → rFil N acc (pF ps) = .ok (acc ++ ps) [] ∧ rFil N acc (32 :: pF ps) = .ok (acc ++ ps) []
  | [], _, h, _, _, _ => absurd rfl h
  | [p], h, _, N, acc, hN => by
    obtain ⟨M, rfl⟩ : ∃ M, N = M + 1 := ⟨N - 1, by simp at hN; omega⟩
    have hp := pred_back p [] (h p (by simp)) trivial
    rw [List.append_nil] at hp
    have hw : rThis [97, 110, 100] [] = .fail true [] := by unfold rThis rWord; simp
    have hb : rPred (32 :: pP p) = rPred (pP p) := by unfold rPred rWord; rw [drop_blank1]
    unfold pF rFil
    rw [hb, hp]
    simp only
    rw [hw]
    exact ⟨rfl, rfl⟩
  | p :: q :: ps, h, _, N, acc, hN => by
    obtain ⟨M, rfl⟩ : ∃ M, N = M + 1 := ⟨N - 1, by simp at hN; omega⟩
    have hp := pred_back p (32 :: 97 :: 110 :: 100 :: 32 :: pF (q :: ps)) (h p (by simp)) (by show isDigit 32 = false; decide)
    have hw : rThis [97, 110, 100] (32 :: 97 :: 110 :: 100 :: 32 :: pF (q :: ps)) = .ok () (32 :: pF (q :: ps)) := by
      unfold rThis
      have := word_back (n := [97, 110, 100]) (r := pF (q :: ps)) ⟨97, [110, 100], rfl, by decide⟩ (by decide)
      have e2 : rWord (32 :: 97 :: 110 :: 100 :: 32 :: pF (q :: ps)) = rWord ([97, 110, 100] ++ 32 :: pF (q :: ps)) := by unfold rWord; rw [drop_blank1]; rfl
      rw [e2, this]
      simp
    have ih := (fil_back (q :: ps) (fun x hx => h x (by simp at hx ⊢; right; exact hx)) (by simp) M (acc ++ [p]) (by simp at hN ⊢; omega)).2
    have hb : rPred (32 :: (pP p ++ 32 :: 97 :: 110 :: 100 :: 32 :: pF (q :: ps))) = rPred (pP p ++ 32 :: 97 :: 110 :: 100 :: 32 :: pF (q :: ps)) := by unfold rPred rWord; rw [drop_blank1]
    have e : acc ++ p :: q :: ps = acc ++ [p] ++ (q :: ps) := by simp
    rw [e]
    unfold pF rFil
    rw [hb, hp]
    simp only
    rw [hw]
    exact ⟨ih, ih⟩
theorem pP_pos (p : Pl) (h : Prn p) : 1 ≤ (pP p).length := by
  obtain ⟨c, r, e, _⟩ := h.n0
  unfold pP
  rw [e]
  split
  · simp
  · split <;> simp
theorem pF_len : ∀ (ps : List Pl), (∀ p ∈ ps, Prn p) → ps.length ≤ (pF ps).length
  | [], _ => by simp
  | [p], h => by unfold pF; have := pP_pos p (h p (by simp)); simpa using this
  | p :: q :: ps, h => by
    have ih := pF_len (q :: ps) (fun x hx => h x (by simp at hx ⊢; right; exact hx))
    unfold pF
    simp at ih ⊢; omega
theorem pars_back (ps : List Pl) (h : ∀ p ∈ ps, Prn p) (h0 : ps ≠ []) : pars (pF ps) = .ok ps [] := by
  have := (fil_back ps h h0 ((pF ps).length + 1) [] (Nat.le_succ_of_le (pF_len ps h))).1
  rw [List.nil_append] at this
  exact this
end Go.Proofs.YtkncpojijfeahaaGreatDoor
