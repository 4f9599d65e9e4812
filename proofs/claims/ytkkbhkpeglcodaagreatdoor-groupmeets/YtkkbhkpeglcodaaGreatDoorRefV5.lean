/- The document's values (wigwagref05): Str, Find, pred. -/
import Derived.Test.YtkkbhkpeglcodaaGreatDoorValFilter
import Derived.Test.YtkkbhkpeglcodaaGreatDoorFam
import Derived.Deep.LoopGhost
namespace Go.Proofs.YtkkbhkpeglcodaaGreatDoor
open Go.ChangeShapes Go.WideShapes Go.ChangeAt Go.RowKit
set_option linter.unusedVariables false

theorem vbel1 (w : World) (o : Obj) : Below w.heap.size w (w.alloc o) := (Below.refl _ _).alloc (Nat.le_refl _) o
set_option maxHeartbeats 1000000 in
theorem rstr5_any (s : ByteArray) (w : World) (hs : s.size ≤ maxLen) :
    Calls Tryz.prog 77 #[.string s] w fun e w' => Says e (StrOk s) ∧ w' = w := by
  unfold maxLen at hs
  go_enter Tryz.func77, Tryz.ntmps77
  go_wp2
  go_loop [3] (fun i => ∃ k : Nat, k ≤ s.size ∧ i = .int .i64 k ∧ Hid (∀ j (h : j < s.size), j < k → (32 : Int) ≤ (s[j].toNat : Int) ∧ (s[j].toNat : Int) ≤ 126)) (fun i => s.size - (intOf i).toNat)
  case atStart => exact ⟨0, Nat.zero_le _, rfl, (fun j _ h => absurd h (Nat.not_lt_zero _) : ∀ j (h : j < s.size), j < 0 → (32 : Int) ≤ (s[j].toNat : Int) ∧ (s[j].toNat : Int) ≤ 126)⟩
  case round =>
    obtain ⟨k, hk, rfl, I⟩ := hrel
    by_cases hlt : k < s.size
    · by_cases h1 : (s[k].toNat : Int) < 32
      · go_wp2
        go_ret
        exact ⟨Says.no fun h => by have := h.ch k hlt; omega, rfl⟩
      · by_cases h2 : (126 : Int) < (s[k].toNat : Int)
        · go_wp2
          go_ret
          exact ⟨Says.no fun h => by have := h.ch k hlt; omega, rfl⟩
        · have I2 : Hid (∀ j (h : j < s.size), j < k + 1 → (32 : Int) ≤ (s[j].toNat : Int) ∧ (s[j].toNat : Int) ≤ 126) := fun j hj hjk => by
            by_cases e : j = k
            · subst e; omega
            · exact I.out j hj (by omega)
          go_wp2
          go_round
          case rel => exact ⟨k + 1, by omega, by go_num, I2⟩
          case measure => simp [intOf]; omega
    · go_wp2
      go_ret
      exact ⟨Says.dec ⟨fun h => ⟨fun i hi => I.out i hi (by omega), by omega⟩, fun h => by have := h.le; omega⟩, rfl⟩

set_option maxRecDepth 100000 in
set_option maxHeartbeats 2000000 in
theorem rfind5_any (v : Value) (az : List At) (nm : ByteArray) (w : World) (h : AtIn w v az) (hl : az.length ≤ 1000) :
    Calls Tryz.prog 43 #[v, .string nm] w fun e w' => (∃ r, e = .returned (.int .i64 r) ∧ Found az nm r) ∧ Below w.heap.size w w' := by
  obtain ⟨a, c, rfl, _⟩ := h.shape
  have HI : Hid (AtIn w (.slice a az.length c) az) := h
  clear h
  go_enter Tryz.func43, Tryz.ntmps43
  go_wp2
  go_loopg [9] az.length (fun kx s9 wr => ∃ i : Nat, s9 = .int .i64 (i : Int) ∧ i ≤ az.length ∧ kx = az.length - i ∧ Hid (Below w.heap.size w wr ∧ ∀ j, j < i → (az.getD j at0).name ≠ nm))
  case atStart => exact ⟨0, rfl, Nat.zero_le _, rfl, (⟨Below.refl _ _, fun j hj => absurd hj (Nat.not_lt_zero _)⟩ : _ ∧ _)⟩
  case round =>
    obtain ⟨i, rfl, hi, rfl, I⟩ := hrel
    by_cases hlt : i < az.length
    · obtain ⟨g, rfl, hg, hcc, k0, k1, k2, k3⟩ := (HI.out.below I.out.1).row i hlt
      have HB : Hid (∀ o, Below w.heap.size w (wr.alloc o)) := fun o => I.out.1.trans ((vbel1 _ _).mono I.out.1.size)
      by_cases hnm : (az.getD i at0).name = nm
      · have HF : Hid (Found az nm i) := Or.inl ⟨i, rfl, hlt, hnm, I.out.2⟩
        rw [hnm] at k0
        clear hnm
        generalize az.getD i at0 = x at k1 k2 k3
        go_wp2
        go_ret
        exact ⟨⟨_, rfl, HF.out⟩, HB.out _⟩
      · have HN : Hid (∀ j, j < i + 1 → (az.getD j at0).name ≠ nm) := fun j hj => by
          by_cases e : j = i
          · subst e; exact hnm
          · exact I.out.2 j (by omega)
        generalize az.getD i at0 = x at k0 k1 k2 k3 hnm
        obtain ⟨xn, xk, xm, xx⟩ := x
        simp only at k0 k1 k2 k3 hnm
        have h1 : xn.toList ≠ nm.toList := fun e => hnm (toList_inj.1 e)
        have h2 : (xn.toList == nm.toList) = false := by simpa using h1
        clear hnm
        go_wp2
        go_roundg (az.length - (i + 1))
        case measure => omega
        case rel => exact ⟨i + 1, by go_num, by omega, rfl, (⟨HB.out _, HN.out⟩ : _ ∧ _)⟩
    · obtain rfl : i = az.length := by omega
      have HF : Hid (Found az nm (-1)) := Or.inr ⟨rfl, I.out.2⟩
      go_wp2
      go_ret
      exact ⟨⟨_, rfl, HF.out⟩, I.out.1⟩

set_option maxRecDepth 100000 in
set_option maxHeartbeats 4000000 in
theorem rpred5_any (a : At) (p : Pd) (w : World) (hz : p.str.size ≤ maxLen) :
    Calls Tryz.prog 67 #[.agg #[.string a.name, .int .i64 a.kind, .int .i64 a.mn, .int .i64 a.mx], .agg #[.string p.name, .int .i64 p.op, .int .i64 p.lo, .int .i64 p.hi, .string p.str]] w fun e w' => Says e (PredOk a p) ∧ Below w.heap.size w w' := by
  obtain ⟨an, ak, amn, amx⟩ := a
  obtain ⟨pn, op, lo, hi, st⟩ := p
  simp only at hz ⊢
  have HB : Hid (∀ o1 o2, Below w.heap.size w ((w.alloc o1).alloc o2)) := fun o1 o2 => ((Below.refl _ _).alloc (Nat.le_refl _) _).alloc (by simp) _
  have HST : Hid _ := fun W => rstr5_any st W hz
  have h00 : ByteArray.empty.toList = [] := by rw [ByteArray.toList_eq]; rfl
  have he : (st = ByteArray.empty) ↔ st.toList = [] := by
    constructor
    · intro h; rw [h]; exact h00
    · intro h; exact toList_inj.1 (h.trans h00.symm)
  clear h00
  by_cases h1 : op = 1
  · subst h1
    have HP : Hid (PredOk ⟨an, ak, amn, amx⟩ ⟨pn, 1, lo, hi, st⟩ ↔ (ak = 1 ∧ amn ≤ lo ∧ lo ≤ hi ∧ hi ≤ amx ∧ st.toList = [])) := by
      rw [Hid]; unfold PredOk; simp only; rw [he]
      constructor
      · rintro (⟨_, q⟩ | ⟨q, _⟩)
        · exact q
        · omega
      · intro q; exact Or.inl ⟨trivial, q⟩
    clear he HST
    by_cases g1 : ak = 1
    case neg =>
      have b1 : (ak == 1) = false := by simpa using g1
      have HN : Hid (¬ PredOk ⟨an, ak, amn, amx⟩ ⟨pn, 1, lo, hi, st⟩) := fun h => g1 (HP.out.1 h).1
      go_enter Tryz.func67, Tryz.ntmps67
      go_wp2
      go_ret
      exact ⟨Says.no HN.out, HB.out _ _⟩
    by_cases g2 : amn ≤ lo
    case neg =>
      have HN : Hid (¬ PredOk ⟨an, ak, amn, amx⟩ ⟨pn, 1, lo, hi, st⟩) := fun h => g2 (HP.out.1 h).2.1
      subst g1
      go_enter Tryz.func67, Tryz.ntmps67
      go_wp2
      go_ret
      exact ⟨Says.no HN.out, HB.out _ _⟩
    by_cases g3 : lo ≤ hi
    case neg =>
      have HN : Hid (¬ PredOk ⟨an, ak, amn, amx⟩ ⟨pn, 1, lo, hi, st⟩) := fun h => g3 (HP.out.1 h).2.2.1
      subst g1
      go_enter Tryz.func67, Tryz.ntmps67
      go_wp2
      go_ret
      exact ⟨Says.no HN.out, HB.out _ _⟩
    by_cases g4 : hi ≤ amx
    case neg =>
      have HN : Hid (¬ PredOk ⟨an, ak, amn, amx⟩ ⟨pn, 1, lo, hi, st⟩) := fun h => g4 (HP.out.1 h).2.2.2.1
      subst g1
      go_enter Tryz.func67, Tryz.ntmps67
      go_wp2
      go_ret
      exact ⟨Says.no HN.out, HB.out _ _⟩
    by_cases g5 : st.toList = []
    case neg =>
      have HN : Hid (¬ PredOk ⟨an, ak, amn, amx⟩ ⟨pn, 1, lo, hi, st⟩) := fun h => g5 (HP.out.1 h).2.2.2.2
      have b5 : (st.toList == []) = false := by simpa using g5
      subst g1
      go_enter Tryz.func67, Tryz.ntmps67
      go_wp2
      go_ret
      exact ⟨Says.no HN.out, HB.out _ _⟩
    have HY : Hid (PredOk ⟨an, ak, amn, amx⟩ ⟨pn, 1, lo, hi, st⟩) := HP.out.2 ⟨g1, g2, g3, g4, g5⟩
    have b5 : (st.toList == []) = true := by simpa using g5
    subst g1
    go_enter Tryz.func67, Tryz.ntmps67
    go_wp2
    go_ret
    exact ⟨Says.yes HY.out, HB.out _ _⟩
  · have b1 : (op == 1) = false := by simpa using h1
    have HP : Hid (PredOk ⟨an, ak, amn, amx⟩ ⟨pn, op, lo, hi, st⟩ ↔ ((op = 2 ∨ (op = 3 ∧ st.toList ≠ [])) ∧ ak = 2 ∧ lo = 0 ∧ hi = 0 ∧ StrOk st)) := by
      rw [Hid]; unfold PredOk; simp only; rw [Ne, he]
      constructor
      · rintro (⟨q, _⟩ | ⟨q1, q2, q3, q4, q5⟩)
        · exact absurd q h1
        · exact ⟨q1, q2, q4, q5, q3⟩
      · rintro ⟨q1, q2, q3, q4, q5⟩
        exact Or.inr ⟨q1, q2, q5, q3, q4⟩
    clear he
    have hask : (op = 2) ∨ (op = 3 ∧ ¬ st.toList = []) ∨ (op = 3 ∧ st.toList = []) ∨ (¬ op = 2 ∧ ¬ op = 3) := by
      by_cases a : op = 2
      · exact Or.inl a
      · by_cases b : op = 3
        · by_cases c : st.toList = []
          · exact Or.inr (Or.inr (Or.inl ⟨b, c⟩))
          · exact Or.inr (Or.inl ⟨b, c⟩)
        · exact Or.inr (Or.inr (Or.inr ⟨a, b⟩))
    have rest : ∀ (P : Prop), P → P := fun _ h => h
    rcases hask with hop | ⟨hop, hst⟩ | ⟨hop, hst⟩ | ⟨ho2, ho3⟩
    case inr.inr.inl =>
      have HN : Hid (¬ PredOk ⟨an, ak, amn, amx⟩ ⟨pn, op, lo, hi, st⟩) := fun h => by
        rcases (HP.out.1 h).1 with q | q
        · omega
        · exact q.2 hst
      have bs : (st.toList == []) = true := by simpa using hst
      subst hop
      go_enter Tryz.func67, Tryz.ntmps67
      go_wp2
      go_ret
      exact ⟨Says.no HN.out, HB.out _ _⟩
    case inr.inr.inr =>
      have HN : Hid (¬ PredOk ⟨an, ak, amn, amx⟩ ⟨pn, op, lo, hi, st⟩) := fun h => by
        rcases (HP.out.1 h).1 with q | q
        · exact ho2 q
        · exact ho3 q.1
      have b2 : (op == 2) = false := by simpa using ho2
      have b3 : (op == 3) = false := by simpa using ho3
      go_enter Tryz.func67, Tryz.ntmps67
      go_wp2
      go_ret
      exact ⟨Says.no HN.out, HB.out _ _⟩
    all_goals
      have HOP : Hid (op = 2 ∨ (op = 3 ∧ st.toList ≠ [])) := by first | exact Or.inl hop | exact Or.inr ⟨hop, hst⟩
      have bst : True ∧ (¬ st.toList = [] → (st.toList == []) = false) := ⟨trivial, fun h => by simpa using h⟩
      try have bs : (st.toList == []) = false := by simpa using hst
      clear bst rest
      by_cases g1 : ak = 2
      case neg =>
        have HN : Hid (¬ PredOk ⟨an, ak, amn, amx⟩ ⟨pn, op, lo, hi, st⟩) := fun h => g1 (HP.out.1 h).2.1
        have b1 : (ak == 2) = false := by simpa using g1
        subst hop
        go_enter Tryz.func67, Tryz.ntmps67
        go_wp2
        go_ret
        exact ⟨Says.no HN.out, HB.out _ _⟩
      by_cases g2 : lo = 0
      case neg =>
        have HN : Hid (¬ PredOk ⟨an, ak, amn, amx⟩ ⟨pn, op, lo, hi, st⟩) := fun h => g2 (HP.out.1 h).2.2.1
        have b2 : (lo == 0) = false := by simpa using g2
        subst hop g1
        go_enter Tryz.func67, Tryz.ntmps67
        go_wp2
        go_ret
        exact ⟨Says.no HN.out, HB.out _ _⟩
      by_cases g3 : hi = 0
      case neg =>
        have HN : Hid (¬ PredOk ⟨an, ak, amn, amx⟩ ⟨pn, op, lo, hi, st⟩) := fun h => g3 (HP.out.1 h).2.2.2.1
        have b3 : (hi == 0) = false := by simpa using g3
        subst hop g1 g2
        go_enter Tryz.func67, Tryz.ntmps67
        go_wp2
        go_ret
        exact ⟨Says.no HN.out, HB.out _ _⟩
      have HY : Hid (StrOk st ↔ PredOk ⟨an, ak, amn, amx⟩ ⟨pn, op, lo, hi, st⟩) := ⟨fun h => HP.out.2 ⟨HOP.out, g1, g2, g3, h⟩, fun h => (HP.out.1 h).2.2.2.2⟩
      subst hop g1 g2 g3
      go_enter Tryz.func67, Tryz.ntmps67
      go_wp2_with fail
      refine Calls.mono (HST.out _) ?_
      rintro e w' ⟨⟨b, rfl, hb⟩, hw'⟩
      subst w'
      have HBB : Hid (b = true ↔ StrOk st) := hb
      clear hb
      go_wp2
      go_ret
      exact ⟨⟨b, rfl, HBB.out.trans HY.out⟩, HB.out _ _⟩
end Go.Proofs.YtkkbhkpeglcodaaGreatDoor
