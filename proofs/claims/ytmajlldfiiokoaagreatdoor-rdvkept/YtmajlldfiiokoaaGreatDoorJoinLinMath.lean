/- Lists that rise: where one stands, or would; put in there. Texts by their bytes. No program in sight. -/
import Derived.WalkKit
import Derived.Test.YtmajlldfiiokoaaGreatDoorRows
import Derived.Test.YtmajlldfiiokoaaGreatDoorAid
import Derived.ProofKit
import Derived.OpenShut
import Derived.WalkLawsBesides
import Derived.Outline
import Derived.Below
import Derived.Laws.CopyRow
import Derived.Lib.AppendZeros
import Derived.Deep.AppendSrc
import Derived.Test.YtmajlldfiiokoaaGreatDoorOwnSrc
import Derived.Shelf.Spec.SlicesInsert
import Derived.Deep.AppendLies
import Derived.Deep.RegionLaw
import Derived.BigRegion
import Derived.Test.YtmajlldfiiokoaaGreatDoorJoinRowMath
import Derived.Deep.LoopGhost
import Derived.Deep.RegionWith
import Derived.Deep.RegionHeld3
import Derived.Deep.CutBlock
import Derived.Deep.DeepCutAuto
import Derived.Deep.QuietTactic
import Derived.BigQuiet
import Derived.Deep.Upon
import Derived.Laws.AppendOwn
import Derived.Test.YtmajlldfiiokoaaGreatDoorShelfT
set_option linter.unnecessarySimpa false
namespace Go.Proofs.YtmajlldfiiokoaaGreatDoor
open Go.RowKit
set_option linter.unusedVariables false

structure Lin {α : Type} (lt : α → α → Bool) : Prop where
  irr : ∀ a, lt a a = false
  trans : ∀ a b c, lt a b = true → lt b c = true → lt a c = true
  tri : ∀ a b, lt a b = false → lt b a = false → a = b
def Asc {α : Type} (lt : α → α → Bool) (L : List α) : Prop := L.Pairwise (fun a b => lt a b = true)
/-- How many lie ahead. -/
def lb {α : Type} (lt : α → α → Bool) : List α → α → Nat
  | [], _ => 0
  | a :: L, x => if lt a x then lb lt L x + 1 else 0

section
variable {α : Type} {lt : α → α → Bool} (d : α)
theorem lb_le (L : List α) (x : α) : lb lt L x ≤ L.length := by
  induction L with
  | nil => simp [lb]
  | cons a L ih => unfold lb; split <;> simp; omega
theorem lb_less (L : List α) (x : α) (t : Nat) (h : t < lb lt L x) : lt (L.getD t d) x = true := by
  induction L generalizing t with
  | nil => simp [lb] at h
  | cons a L ih =>
    unfold lb at h
    split at h
    · rename_i ha
      cases t with
      | zero => simpa using ha
      | succ t => simpa using ih t (by omega)
    · omega
theorem lb_not (hl : Lin lt) (L : List α) (hs : Asc lt L) (x : α) (t : Nat) (h : lb lt L x ≤ t) (ht : t < L.length) : lt (L.getD t d) x = false := by
  induction L generalizing t with
  | nil => simp at ht
  | cons a L ih =>
    obtain ⟨h1, h2⟩ := List.pairwise_cons.1 hs
    unfold lb at h
    split at h
    · cases t with
      | zero => omega
      | succ t => simpa using ih h2 t (by omega) (by simpa using ht)
    · rename_i ha
      cases t with
      | zero => simpa using ha
      | succ t =>
        have htL : t < L.length := by simpa using ht
        have hm : L.getD t d ∈ L := by rw [List.getD_eq_getElem?_getD, List.getElem?_eq_getElem htL]; exact List.getElem_mem _
        have hab := h1 _ hm
        cases q : lt ((a :: L).getD (t + 1) d) x with
        | false => rfl
        | true =>
          have : lt a x = true := hl.trans _ _ _ hab (by simpa using q)
          exact absurd this ha
theorem getD_memL (L : List α) (t : Nat) (h : t < L.length) : L.getD t d ∈ L := by
  rw [List.getD_eq_getElem?_getD, List.getElem?_eq_getElem h]; exact List.getElem_mem _
theorem mem_getDL {L : List α} {x : α} (h : x ∈ L) : ∃ t, t < L.length ∧ L.getD t d = x := by
  obtain ⟨t, ht, rfl⟩ := List.getElem_of_mem h
  exact ⟨t, ht, by rw [List.getD_eq_getElem?_getD, List.getElem?_eq_getElem ht]; rfl⟩
theorem getD_getElemL (L : List α) (t : Nat) (h : t < L.length) : L.getD t d = L[t] := by
  rw [List.getD_eq_getElem?_getD, List.getElem?_eq_getElem h]; rfl
theorem asc_getD {L : List α} (hs : Asc lt L) {s t : Nat} (h : s < t) (ht : t < L.length) : lt (L.getD s d) (L.getD t d) = true := by
  rw [getD_getElemL d L s (by omega), getD_getElemL d L t ht]
  exact List.pairwise_iff_getElem.1 hs s t (by omega) ht h
theorem lb_hit (hl : Lin lt) (L : List α) (hs : Asc lt L) (x : α) : (lb lt L x < L.length ∧ L.getD (lb lt L x) d = x) ↔ x ∈ L := by
  constructor
  · rintro ⟨h1, h2⟩; rw [← h2]; exact getD_memL d L _ h1
  · intro h
    obtain ⟨t, ht, rfl⟩ := mem_getDL d h
    have e : lb lt L (L.getD t d) = t := by
      rcases Nat.lt_trichotomy (lb lt L (L.getD t d)) t with q | q | q
      · have h1 := lb_not d hl L hs (L.getD t d) _ (Nat.le_refl _) (by omega)
        have h2 : lt (L.getD (lb lt L (L.getD t d)) d) (L.getD t d) = true := asc_getD d hs q ht
        rw [h1] at h2; cases h2
      · exact q
      · have := lb_less d L (L.getD t d) t q
        rw [hl.irr] at this; cases this
    rw [e]; exact ⟨ht, rfl⟩
theorem take_less (L : List α) (x : α) : ∀ a ∈ L.take (lb lt L x), lt a x = true := by
  induction L with
  | nil => simp [lb]
  | cons b L ih =>
    unfold lb
    split
    · rename_i h
      intro a ha
      rw [List.take_succ_cons] at ha
      rcases List.mem_cons.1 ha with rfl | ha
      · exact h
      · exact ih a ha
    · simp
theorem drop_more (hl : Lin lt) (L : List α) (hs : Asc lt L) (x : α) (hx : x ∉ L) : ∀ a ∈ L.drop (lb lt L x), lt x a = true := by
  intro a ha
  obtain ⟨t, ht, rfl⟩ := List.getElem_of_mem ha
  rw [List.getElem_drop]
  have hlen : lb lt L x + t < L.length := by simp at ht; omega
  have h1 := lb_not x hl L hs x (lb lt L x + t) (by omega) hlen
  rw [List.getD_eq_getElem?_getD, List.getElem?_eq_getElem hlen, Option.getD_some] at h1
  cases q : lt x (L[lb lt L x + t]) with
  | true => rfl
  | false => exact absurd (hl.tri _ _ h1 q) (fun e => hx (by rw [← e]; exact List.getElem_mem _))
/-- Put in. -/
def putIn (lt : α → α → Bool) (L : List α) (x : α) : List α := L.take (lb lt L x) ++ [x] ++ L.drop (lb lt L x)
theorem asc_putIn (hl : Lin lt) (L : List α) (hs : Asc lt L) (x : α) (hx : x ∉ L) : Asc lt (putIn lt L x) := by
  unfold putIn Asc
  rw [List.append_assoc, List.pairwise_append]
  refine ⟨hs.sublist (List.take_sublist _ _), ?_, fun a ha b hb => ?_⟩
  · rw [List.singleton_append, List.pairwise_cons]
    exact ⟨drop_more hl L hs x hx, hs.sublist (List.drop_sublist _ _)⟩
  · have h1 := take_less (lt := lt) L x a ha
    rw [List.singleton_append] at hb
    rcases List.mem_cons.1 hb with rfl | hb
    · exact h1
    · exact hl.trans _ _ _ h1 (drop_more hl L hs x hx b hb)
theorem len_putIn (L : List α) (x : α) : (putIn lt L x).length = L.length + 1 := by
  unfold putIn
  have := lb_le (lt := lt) L x
  simp; omega
theorem asc_nodup (hl : Lin lt) {L : List α} (hs : Asc lt L) : L.Nodup := hs.imp (fun h e => by rw [e, hl.irr] at h; cases h)
end

/-- Texts by their bytes. -/
def ltS (a b : ByteArray) : Bool := Op.bytesLess a.toList b.toList
theorem bl_irr : ∀ x : List UInt8, Op.bytesLess x x = false
  | [] => rfl
  | a :: x => by simp [Op.bytesLess, bl_irr x]
theorem bl_trans : ∀ x y z : List UInt8, Op.bytesLess x y = true → Op.bytesLess y z = true → Op.bytesLess x z = true
  | _, [], _, h, _ => by simp [Op.bytesLess] at h
  | _, _ :: _, [], _, h => by simp [Op.bytesLess] at h
  | [], _ :: _, _ :: _, _, _ => by simp [Op.bytesLess]
  | a :: x, b :: y, c :: z, h1, h2 => by
    simp only [Op.bytesLess, Bool.or_eq_true, decide_eq_true_eq, Bool.and_eq_true, beq_iff_eq] at *
    rcases h1 with h1 | ⟨rfl, h1⟩
    · rcases h2 with h2 | ⟨rfl, h2⟩
      · left; exact UInt8.lt_trans h1 h2
      · left; exact h1
    · rcases h2 with h2 | ⟨rfl, h2⟩
      · left; exact h2
      · right; exact ⟨rfl, bl_trans x y z h1 h2⟩
theorem bl_tri : ∀ x y : List UInt8, Op.bytesLess x y = false → Op.bytesLess y x = false → x = y
  | [], [], _, _ => rfl
  | [], _ :: _, h, _ => by simp [Op.bytesLess] at h
  | _ :: _, [], _, h => by simp [Op.bytesLess] at h
  | a :: x, b :: y, h1, h2 => by
    simp only [Op.bytesLess, Bool.or_eq_false_iff, decide_eq_false_iff_not, Bool.and_eq_false_iff, beq_eq_false_iff_ne] at h1 h2
    have e : a = b := by
      have q1 := h1.1; have q2 := h2.1
      rw [UInt8.lt_iff_toNat_lt] at q1 q2
      exact UInt8.toNat_inj.1 (by omega)
    subst e
    have r1 : Op.bytesLess x y = false := by rcases h1.2 with q | q; exact absurd rfl q; exact q
    have r2 : Op.bytesLess y x = false := by rcases h2.2 with q | q; exact absurd rfl q; exact q
    rw [bl_tri x y r1 r2]
theorem bytes_inj {a b : ByteArray} (h : a.toList = b.toList) : a = b := by
  rw [ByteArray.toList_eq, ByteArray.toList_eq] at h
  obtain ⟨⟨x⟩⟩ := a
  obtain ⟨⟨y⟩⟩ := b
  simpa using h
theorem linS : Lin ltS := ⟨fun a => bl_irr _, fun a b c => bl_trans _ _ _, fun a b h1 h2 => bytes_inj (bl_tri _ _ h1 h2)⟩
theorem eqS (a b : ByteArray) : (a.toList == b.toList) = decide (a = b) := by
  by_cases h : a = b
  · subst h; simp
  · have : ¬ a.toList = b.toList := fun e => h (bytes_inj e)
    simp [h, this]

/-- Is it among them? -/
def hasS (L : List ByteArray) (x : ByteArray) : Bool := L.any (fun y => y.toList == x.toList)
theorem hasS_iff (L : List ByteArray) (x : ByteArray) : hasS L x = true ↔ x ∈ L := by
  unfold hasS
  rw [List.any_eq_true]
  constructor
  · rintro ⟨y, hy, h⟩
    have : y = x := bytes_inj (by simpa using h)
    rw [← this]; exact hy
  · intro h; exact ⟨x, h, by simp⟩
theorem hasS_no {L : List ByteArray} {x : ByteArray} (h : x ∉ L) : hasS L x = false := by
  cases q : hasS L x with
  | false => rfl
  | true => exact absurd ((hasS_iff L x).1 q) h
/-- A key: a group, then a child. -/
def ltK (a b : ByteArray × Int) : Bool := ltS a.1 b.1 || (a.1.toList == b.1.toList && decide (a.2 < b.2))
theorem linK : Lin ltK := by
  refine ⟨fun a => ?_, fun a b c h1 h2 => ?_, fun a b h1 h2 => ?_⟩
  · simp [ltK, linS.irr]
  · simp only [ltK, Bool.or_eq_true, Bool.and_eq_true, eqS, decide_eq_true_eq] at *
    rcases h1 with h1 | ⟨e1, h1⟩
    · rcases h2 with h2 | ⟨e2, h2⟩
      · left; exact linS.trans _ _ _ h1 h2
      · left; rw [← e2]; exact h1
    · rcases h2 with h2 | ⟨e2, h2⟩
      · left; rw [e1]; exact h2
      · right; exact ⟨e1.trans e2, by omega⟩
  · simp only [ltK, Bool.or_eq_false_iff, Bool.and_eq_false_iff, eqS, decide_eq_false_iff_not] at *
    have e : a.1 = b.1 := linS.tri _ _ h1.1 h2.1
    have h3 : ¬ a.2 < b.2 := by rcases h1.2 with q | q; exact absurd e q; exact q
    have h4 : ¬ b.2 < a.2 := by rcases h2.2 with q | q; exact absurd e.symm q; exact q
    exact Prod.ext e (by omega)
end Go.Proofs.YtmajlldfiiokoaaGreatDoor

/- slices.BinarySearch of texts that rise. -/
namespace Go.Proofs.YtmajlldfiiokoaaGreatDoor
open Go.ChangeShapes Go.WideShapes Go.ChangeAt Go.RowKit
set_option linter.unusedVariables false

theorem cnan_s (x : ByteArray) (w : World) : Calls Tryz.prog 218 #[.string x] w fun e w' => e = .returned (.bool false) ∧ w' = w := by
  go_enter Tryz.func218, Tryz.ntmps218
  go_wp2
  go_ret
  exact ⟨by simp, rfl⟩
theorem snan_s (x : ByteArray) (w : World) : Calls Tryz.prog 219 #[.string x] w fun e w' => e = .returned (.bool false) ∧ w' = w := by
  go_enter Tryz.func219, Tryz.ntmps219
  go_wp2
  go_ret
  exact ⟨by simp, rfl⟩
theorem less_s (x y : ByteArray) (w : World) : Calls Tryz.prog 193 #[.string x, .string y] w fun e w' => e = .returned (.bool (ltS x y)) ∧ w' = w := by
  go_enter Tryz.func193, Tryz.ntmps193
  go_wp2_with (go_at_call 218; refine (cnan_s _ _).mono ?_; rintro e w' ⟨rfl, rfl⟩)
  go_ret
  exact ⟨rfl, rfl⟩

/-- The texts lie where the slice shows. -/
def StrIn (w : World) (a : Option Addr) (len : Nat) (L : List ByteArray) : Prop := L.length = len ∧ (len = 0 ∨ ∃ b o, a = some ⟨b, o, none⟩ ∧ b < w.heap.size ∧ ∀ j, j < len → w.cell? ⟨b, o + j, none⟩ = some (.string (L.getD j ByteArray.empty)))

set_option maxHeartbeats 2000000 in
theorem bs_any (a : Option Addr) (len c : Nat) (L : List ByteArray) (x : ByteArray) (w : World) (h : StrIn w a len L) (hL : Asc ltS L) (hlen : len ≤ 100000) :
    Calls Tryz.prog 200 #[.slice a len c, .string x] w fun e w' => e = .returned (.tuple #[.int .i64 (lb ltS L x), .bool (hasS L x)]) ∧ w' = w := by
  obtain ⟨k, hk⟩ : ∃ k, k = lb ltS L x := ⟨_, rfl⟩
  have hkl : k ≤ len := by rw [hk, ← h.1]; exact lb_le _ _
  have h1 : ∀ t, t < k → ltS (L.getD t ByteArray.empty) x = true := fun t ht => lb_less _ L x t (by rw [← hk]; exact ht)
  have h2 : ∀ t, k ≤ t → t < len → ltS (L.getD t ByteArray.empty) x = false := fun t ht hl => lb_not _ linS L hL x t (by rw [← hk]; exact ht) (by rw [h.1]; exact hl)
  have h3 := lb_hit ByteArray.empty linS L hL x
  rw [← hk, h.1] at h3
  rw [← hk]
  have HX : Hid (StrIn w a len L) := h
  have H1 : Hid _ := h1
  have H2 : Hid _ := h2
  have H3 : Hid _ := h3
  clear h h1 h2 h3 hk
  go_enter Tryz.func200, Tryz.ntmps200
  go_wp2
  go_loop [7, 8] (fun x y => ∃ lo hi : Nat, x = .int .i64 lo ∧ y = .int .i64 hi ∧ lo ≤ k ∧ k ≤ hi ∧ hi ≤ len) (fun x y => (intOf y).toNat - (intOf x).toNat)
  case atStart => exact ⟨0, len, rfl, rfl, Nat.zero_le _, hkl, Nat.le_refl _⟩
  case round =>
    obtain ⟨lo, hi, rfl, rfl, hlo, hhi, hhl⟩ := hrel
    by_cases hlt : lo < hi
    · obtain ⟨b, o, ha, hb, hcells⟩ := HX.out.2.resolve_left (by omega)
      subst ha
      obtain ⟨m, hm⟩ : ∃ m, m = (lo + hi) / 2 := ⟨_, rfl⟩
      have hm1 : lo ≤ m := by omega
      have hm2 : m < hi := by omega
      have hc := hcells m (by omega)
      have hmi : ((lo : Int) + (hi : Int)) / 2 = (m : Int) := by omega
      have hm0 : (0 : Int) ≤ (m : Int) := Int.natCast_nonneg _
      have hml : (m : Int) < (len : Int) := by omega
      clear hm hcells
      obtain ⟨s, hs⟩ : ∃ s, s = L.getD m ByteArray.empty := ⟨_, rfl⟩
      rw [← hs] at hc
      by_cases hmk : m < k
      · have hq := H1.out m hmk
        rw [← hs] at hq
        have HQ : Hid _ := hq
        clear hs hq
        go_wp2_with (go_at_call 193; refine (less_s _ _ _).mono ?_; rintro e w' ⟨rfl, rfl⟩; rw [HQ.out])
        go_round
        case rel => exact ⟨m + 1, hi, by go_num, rfl, by omega, by omega, by omega⟩
        case measure => simp [intOf]; omega
      · have hq := H2.out m (by omega) (by omega)
        rw [← hs] at hq
        have HQ : Hid _ := hq
        clear hs hq
        go_wp2_with (go_at_call 193; refine (less_s _ _ _).mono ?_; rintro e w' ⟨rfl, rfl⟩; rw [HQ.out])
        go_round
        case rel => exact ⟨lo, m, rfl, rfl, by omega, by omega, by omega⟩
        case measure => simp [intOf]; omega
    · obtain rfl : lo = k := by omega
      obtain rfl : hi = lo := by omega
      by_cases hkn : hi < len
      · obtain ⟨b, o, ha, hb, hcells⟩ := HX.out.2.resolve_left (by omega)
        subst ha
        have hc := hcells hi hkn
        have hm0 : (0 : Int) ≤ (hi : Int) := Int.natCast_nonneg _
        have hml : (hi : Int) < (len : Int) := by omega
        obtain ⟨s, hs⟩ : ∃ s, s = L.getD hi ByteArray.empty := ⟨_, rfl⟩
        have h3 := H3.out
        rw [← hs] at hc h3
        have H4 : Hid (s = x ↔ x ∈ L) := ⟨fun e => h3.1 ⟨hkn, e⟩, fun e => (h3.2 e).2⟩
        clear hs h3 hcells
        by_cases he : s = x
        · subst he
          have H5 : Hid _ := H4.out.1 rfl
          go_wp2_with (go_at_call 219; refine (snan_s _ _).mono ?_; rintro e w' ⟨rfl, rfl⟩)
          go_ret2
          exact ⟨by rw [(hasS_iff L s).2 H5.out]; simp, rfl⟩
        · have he' : ¬ s.toList = x.toList := fun q => he (bytes_inj q)
          have he2 : (s.toList == x.toList) = false := by simpa using he'
          have H5 : Hid (¬ x ∈ L) := fun q => he (H4.out.2 q)
          go_wp2_with (go_at_call 219; refine (snan_s _ _).mono ?_; rintro e w' ⟨rfl, rfl⟩)
          go_ret2
          exact ⟨by rw [hasS_no H5.out]; simp, rfl⟩
      · have hml : ¬ (hi : Int) < (len : Int) := by omega
        have H5 : Hid (¬ x ∈ L) := fun q => hkn (H3.out.2 q).1
        go_wp2_with (go_at_call 219; refine (snan_s _ _).mono ?_; rintro e w' ⟨rfl, rfl⟩)
        go_ret2
        exact ⟨by rw [hasS_no H5.out]; simp, rfl⟩
end Go.Proofs.YtmajlldfiiokoaaGreatDoor

/- Entries of a table; what several want, as one. No program in sight. -/
namespace Go.Proofs.YtmajlldfiiokoaaGreatDoor
open Go.RowKit
set_option linter.unusedVariables false

/-- An entry, and where its filters lie. -/
structure Ep where
  gr : ByteArray
  ch : Int
  a : Option Addr
  ln : Nat
  cp : Nat
  any : Bool
  till : Int
  fs : List ByteArray
def ep0 : Ep := ⟨ByteArray.empty, 0, none, 0, 0, false, 0, []⟩
def Ep.cells (x : Ep) : List Value := [.string x.gr, .int .i64 x.ch, .slice x.a x.ln x.cp, .bool x.any, .int .i64 x.till]
theorem Ep.cells_len (x : Ep) : x.cells.length = 5 := rfl
def Ep.key (x : Ep) : ByteArray × Int := (x.gr, x.ch)

def joinF : List ByteArray → List ByteArray → Option (List ByteArray)
  | acc, [] => some acc
  | acc, f :: r => if hasS acc f then joinF acc r else if acc.length = 16 then none else joinF (putIn ltS acc f) r
def joinE : List ByteArray → List (Bool × List ByteArray) → Option (List ByteArray)
  | acc, [] => some acc
  | acc, x :: r => if x.1 then none else match joinF acc x.2 with
    | none => none
    | some acc' => joinE acc' r
/-- What an entry wants. -/
def Ep.want (x : Ep) : Bool × List ByteArray := (x.any, x.fs)

theorem drop_cons {α : Type} (d : α) (L : List α) (i : Nat) (h : i < L.length) : L.drop i = L.getD i d :: L.drop (i + 1) := by
  rw [List.drop_eq_getElem_cons h, getD_getElemL d L i h]
end Go.Proofs.YtmajlldfiiokoaaGreatDoor

/- copy into a row of one's own, whatever its elements' cells; append of zeros that grows. No program in sight. -/
namespace Go.Proofs.YtmajlldfiiokoaaGreatDoor
open Go.RowKit
set_option linter.unusedVariables false

section
variable {P : Program}
/-- copy: all is read before anything is written. -/
theorem copy_rowK (k : Nat) (w : World) (dT sT ty elem : TypeId) (g o dLen dCap : Nat) (a : Addr) (sLen sCap : Nat) (cur : Array Value) (t : TypeId) (cs : List Value)
    (hu : P.underlying dT = some (.slice elem)) (hs : (P.info? elem).map (·.size) = some k)
    (hg : w.heap[g]? = some (.cells cur t (0, 0))) (hn : cs.length = Nat.min sLen dLen * k)
    (hsrc : ∀ j v, cs[j]? = some v → w.cell? (a.add j) = some v) (hfit : o + cs.length ≤ cur.size) (h1 : ∀ v ∈ cs, v.oneCell' = true) :
    (Builtin.copy_ #[dT, sT] ty #[.slice (some ⟨g, o, none⟩) dLen dCap, .slice (some a) sLen sCap]).run P w =
      .ok (goInt (Nat.min sLen dLen)) (w.setRow g (cur.toList.take o ++ cs ++ cur.toList.drop (o + cs.length)).toArray) := by
  have hl := run_loadCells_list (P := P) w a cs hsrc
  rw [hn] at hl
  have hst := run_storeCells_at P g o t cs 0 cur w hg (by simpa using hfit) h1
  cases hq : P.info? elem with
  | none => simp [hq] at hs
  | some i =>
    have hi : i.size = k := by simpa [hq] using hs
    simp [Builtin.copy_, run_underlying hu, Builtin.lenOf, Builtin.firstCells, sizeOf, typeInfo, hq, hi, hl, hst]

/-- append(s[:i], make(S, m)...), where there is no room: a new row. -/
theorem zeros_grow (w : World) (t tn ty e : TypeId) (i : TypeInfo) (z : Value) (ht : P.underlying t = some (.slice e)) (htn : P.underlying tn = some (.int .i64)) (hi : P.info? e = some i) (hz : i.zero = some z)
    (hs : 0 < i.size) (base : Option Addr) (n c m : Nat) (old : List Value) (hold : (Builtin.firstCells i.size n (.slice base n c)).run P w.drew = .ok old.toArray w.drew) (h0 : 0 < m) (hroom : c < n + m) (h63 : n + m ≤ 1000000) (hby : i.bytes ≤ 1000) :
    (Builtin.append_ #[t, tn] ty #[.slice base n c, .int .i64 m]).run P w =
      .ok (.slice (some ⟨w.heap.size, 0, none⟩) (n + m) (grownCap w (n + m) c e)) (w.drew.alloc (.cells (old.toArray ++ Builtin.zeroCells z.cells m ++ Builtin.zeroCells z.cells (grownCap w (n + m) c e - (n + m))) e)) := by
  have hw : IntKind.i64.wrap (m : Int) = m := by rw [IntKind.wrap_i64]; omega
  have hneg : ¬ ((m : Int) < 0) := by omega
  have hmb : m * i.bytes ≤ 1000000 * 1000 := Nat.mul_le_mul (by omega) hby
  have h48i : ¬ (281474976710656 < (m : Int) * (i.bytes : Int)) := by
    rw [← Int.natCast_mul]
    omega
  have hns : ¬ (m * i.size = 0) := Nat.mul_ne_zero (by omega) (by omega)
  have hnr : ¬ (n + m ≤ c) := by omega
  have h63' : ¬ (9223372036854775807 < (n : Int) + (m : Int)) := by omega
  have hnb : (n + m) * i.bytes ≤ 140737488355328 := Nat.le_trans (Nat.mul_le_mul h63 hby) (by omega)
  have h48' : ¬ (281474976710656 < Builtin.nextslicecap (n + m) c * i.bytes) := by
    have := growslice_fits (need := n + m) (old := c) (bytes := i.bytes) hroom hnb
    omega
  simp [Builtin.append_, run_underlying ht, run_underlying htn, sizeOf, typeInfo, zeroValue, hi, hz, asInt, asIntOf, hw, hneg, hns, hnr, h63', h48', h48i, Question.forced, hold, newRow, grownCap]
/-- What an insertion leaves: as an append does. -/
structure AppendK (k base : Nat) (e : TypeId) (w w' : World) (v v' : Value) (n : Nat) (xs : List Value) : Prop where
  row : w'.ownsRow base e k v' n xs
  grown : w.grownBy w' v.ownBlock
  new : ∀ x, v'.ownBlock = some x → v.ownBlock = some x ∨ w.heap.size ≤ x
  shape : ∃ a c, v' = .slice a n c
/-- A row with something put in. -/
theorem splice_in {α : Type} (xs q Z : List α) (j : Nat) (hj : j ≤ xs.length) (hZ : q.length ≤ Z.length) :
    ((xs.take j ++ Z).take j ++ q ++ (xs.take j ++ Z).drop (j + q.length)) = xs.take j ++ q ++ Z.drop q.length := by
  have hl : (xs.take j).length = j := by simp; omega
  rw [List.take_append_of_le_length (by omega), List.take_of_length_le (by omega), List.drop_append, hl]
  have e1 : (xs.take j).drop (j + q.length) = [] := by apply List.drop_eq_nil_of_le; omega
  rw [e1, List.nil_append, show j + q.length - j = q.length by omega]
end
end Go.Proofs.YtmajlldfiiokoaaGreatDoor

/- slices.Insert of one element into a row of one's own (strings): at the end, in the middle with room, in the middle without. -/
namespace Go.Proofs.YtmajlldfiiokoaaGreatDoor
open Go.ChangeShapes Go.WideShapes Go.ChangeAt Go.RowKit
set_option linter.unusedVariables false

theorem Tryz.infoStr : (Tryz.prog.info? 9).map (fun i => (i.zero, i.size, i.bytes)) = some (some (.string ⟨#[]⟩), 1, 16) := by kernel_rfl
theorem infoStr_parts : ∃ i, Tryz.prog.info? 9 = some i ∧ i.zero = some (.string ⟨#[]⟩) ∧ i.size = 1 ∧ i.bytes = 16 := by
  have h := Tryz.infoStr
  cases hh : Tryz.prog.info? 9 with
  | none => rw [hh] at h; simp at h
  | some i => rw [hh] at h; simp at h; exact ⟨i, rfl, h.1, h.2.1, h.2.2⟩
theorem sizeStr (w : World) : (sizeOf 9).run Tryz.prog w = .ok 1 w := by kernel_rfl
theorem srcStr (w : World) (q : List Value) (vb : Nat) (hq : w.heap[vb]? = some (.cells q.toArray 9 (0, 0))) (hql : q.length = 1) (h1 : ∀ v ∈ q, v.oneCell' = true) : Src Tryz.prog 1 55 (.slice (some ⟨vb, 0, none⟩) 1 1) 1 q w :=
  Src.ofSlice _ Tryz.underlying55 _ 1 1 _ (by omega) (fun j u hu => by
    have := World.news_of_block (cs := q.toArray) (t := 9) (fr := (0, 0)) hq j u (by simpa using hu)
    exact this) h1

set_option maxRecDepth 100000 in
set_option maxHeartbeats 2000000 in
/-- At the end. -/
theorem insStr_end (B : Nat) (v : Value) (n : Nat) (xs q : List Value) (vb : Nat) (w : World) (hown : w.ownsRow B 9 1 v n xs) (hn : n ≤ 100000) (hq : w.heap[vb]? = some (.cells q.toArray 9 (0, 0))) (hql : q.length = 1) (h1 : ∀ v ∈ q, v.oneCell' = true) (hB : B ≤ w.heap.size) :
    Calls Tryz.prog 201 #[v, .int .i64 n, .slice (some ⟨vb, 0, none⟩) 1 1] w fun e w' => ∃ v', e = .returned v' ∧ AppendK 1 B 9 w w' v v' (n + 1) (xs ++ q) := by
  obtain ⟨i0, hi, hz0, hz1, hz2⟩ := infoStr_parts
  have HO : Hid _ := hown
  have hs := srcStr w q vb hq hql h1
  have HS : Hid _ := hs
  have hsh : ∃ a c, v = .slice a n c ∧ n ≤ c := by
    rcases hown.2 with ⟨rfl, rfl⟩ | ⟨g, cap, cur, rfl, _, _, hnc, _⟩
    · exact ⟨none, 0, rfl, Nat.le_refl _⟩
    · exact ⟨_, cap, rfl, hnc⟩
  obtain ⟨a, c, rfl, hnc⟩ := hsh
  clear hown hs
  go_enter Tryz.func201, Tryz.ntmps201
  cases a with
  | none =>
    go_wp2_with (at_builtin; refine wpList_own_append _ rfl _ _ 55 55 rfl B 9 i0 _ 16 Tryz.underlying55 hi hz0 hz1 hz2 rfl _ n xs rfl HO.out _ 1 q rfl HS.out ?c3 ?c4 hB ?_)
    case c3 => unfold maxLen; omega
    case c4 => omega
    intro v' w2 ha
    go_wp2
    go_ret
    exact ⟨v', rfl, ha.row, ha.grown, ha.new, ha.shape⟩
  | some a =>
    obtain ⟨g, o, sp⟩ := a
    by_cases hcn : c = n
    · subst hcn
      go_wp2_with (at_builtin; refine wpList_own_append _ rfl _ _ 55 55 rfl B 9 i0 _ 16 Tryz.underlying55 hi hz0 hz1 hz2 rfl _ c xs rfl HO.out _ 1 q rfl HS.out ?c3 ?c4 hB ?_)
      case c3 => unfold maxLen; omega
      case c4 => omega
      intro v' w2 ha
      go_wp2
      go_ret
      exact ⟨v', rfl, ha.row, ha.grown, ha.new, ha.shape⟩
    · go_wp2_with (at_builtin; refine wpList_own_append _ rfl _ _ 55 55 rfl B 9 i0 _ 16 Tryz.underlying55 hi hz0 hz1 hz2 rfl _ n xs rfl HO.out _ 1 q rfl HS.out ?c3 ?c4 hB ?_)
      case c3 => unfold maxLen; omega
      case c4 => omega
      intro v' w2 ha
      go_wp2
      go_ret
      exact ⟨v', rfl, ha.row, ha.grown, ha.new, ha.shape⟩

set_option maxRecDepth 100000 in
set_option maxHeartbeats 4000000 in
/-- In the middle, no room: a new row. -/
theorem insStr_grow (B : Nat) (n c i g : Nat) (cur : Array Value) (xs q : List Value) (vb : Nat) (w : World) (hg : w.heap[g]? = some (.cells cur 9 (0, 0))) (hcs : cur.size = c * 1) (htk : cur.toList.take (n * 1) = xs) (hi' : i < n) (hnc : n ≤ c) (hc : c < n + 1) (hn : n ≤ 100000) (hx1 : ∀ v ∈ xs, v.oneCell' = true)
    (hq : w.heap[vb]? = some (.cells q.toArray 9 (0, 0))) (hql : q.length = 1) (h1 : ∀ v ∈ q, v.oneCell' = true) (hB : B ≤ w.heap.size) :
    Calls Tryz.prog 201 #[.slice (some ⟨g, 0, none⟩) n c, .int .i64 i, .slice (some ⟨vb, 0, none⟩) 1 1] w fun e w' => ∃ v', e = .returned v' ∧ AppendK 1 B 9 w w' (.slice (some ⟨g, 0, none⟩) n c) v' (n + 1) (xs.take (i * 1) ++ q ++ xs.drop (i * 1)) := by
  obtain ⟨i0, hi, hz0, hz1, hz2⟩ := infoStr_parts
  have hcn : c = n := by omega
  subst hcn
  have hxs : xs = cur.toList := by rw [← htk]; exact List.take_of_length_le (by simp; omega)
  have hxl : xs.length = c * 1 := by rw [hxs]; simpa using hcs
  have hsz : (Tryz.prog.info? 9).map (·.size) = some 1 := by rw [hi]; simp [hz1]
  have hcell : ∀ j u, xs[j]? = some u → w.cell? ⟨g, j, none⟩ = some u := fun j u hj => by
    rw [hxs] at hj
    simp [World.cell?, hg]
    simpa using hj
  have hold : (Builtin.firstCells i0.size i (.slice (some ⟨g, 0, none⟩) i c)).run Tryz.prog w.drew = .ok (xs.take (i * 1)).toArray w.drew := by
    rw [hz1]
    exact run_firstCells_some w.drew 1 i ⟨g, 0, none⟩ i c (xs.take (i * 1)) (by rw [List.length_take, hxl]; omega) (fun j u hj => by
      rw [Addr.add_lit, Nat.zero_add]
      rw [List.getElem?_take] at hj
      split at hj
      · exact hcell j u hj
      · cases hj)
  obtain ⟨m, hm⟩ : ∃ m, m = c + 1 - i := ⟨_, rfl⟩
  have hzg := fun ty => zeros_grow (P := Tryz.prog) w 55 3 ty 9 i0 _ Tryz.underlying55 Tryz.underlying3 hi hz0 (by omega) (some ⟨g, 0, none⟩) i c m _ hold (by omega) (by omega) (by omega) (by omega)
  have e1 : i + m = c + 1 := by omega
  rw [e1] at hzg
  obtain ⟨C, hC⟩ : ∃ C, C = grownCap w (c + 1) c 9 := ⟨_, rfl⟩
  have hC1 : c + 1 ≤ C := by rw [hC]; exact grownCap_ge _ _ _ _
  have hC2 : C ≤ maxLen := by rw [hC]; exact grownCap_le_maxLen _ _ _ _ (by unfold maxLen; omega)
  rw [← hC] at hzg
  obtain ⟨Z, hZ⟩ : ∃ Z : List Value, Z = (Builtin.zeroCells (Value.cells (.string ⟨#[]⟩)) m ++ Builtin.zeroCells (Value.cells (.string ⟨#[]⟩)) (C - (c + 1))).toList := ⟨_, rfl⟩
  have hZl : Z.length = (C - i) * 1 := by
    rw [hZ]; simp [size_zeroCells, Value.cells]; omega
  have hrow : (((xs.take (i * 1)).toArray ++ Builtin.zeroCells (Value.cells (.string ⟨#[]⟩)) m) ++ Builtin.zeroCells (Value.cells (.string ⟨#[]⟩)) (C - (c + 1))) = (xs.take (i * 1) ++ Z).toArray := by
    rw [hZ]; apply Array.ext'; simp
  obtain ⟨W1, hW1⟩ : ∃ W1, W1 = w.drew.alloc (.cells (xs.take (i * 1) ++ Z).toArray 9) := ⟨_, rfl⟩
  have hzg' : ∀ ty, (Builtin.append_ #[55, 3] ty #[.slice (some ⟨g, 0, none⟩) i c, .int .i64 m]).run Tryz.prog w = .ok (.slice (some ⟨w.heap.size, 0, none⟩) (c + 1) C) W1 := fun ty => by
    rw [hW1, ← hrow]; exact hzg ty
  have hglt : g < w.heap.size := (Array.getElem?_eq_some_iff.1 hg).1
  have hvlt : vb < w.heap.size := (Array.getElem?_eq_some_iff.1 hq).1
  have hb1 : W1.heap[w.heap.size]? = some (.cells (xs.take (i * 1) ++ Z).toArray 9 (0, 0)) := by rw [hW1]; exact heap_alloc_new w.drew _
  have hq1 : W1.heap[vb]? = some (.cells q.toArray 9 (0, 0)) := by rw [hW1]; exact (Below.heap_alloc w.drew _ vb hvlt).trans hq
  have hg1 : W1.heap[g]? = some (.cells cur 9 (0, 0)) := by rw [hW1]; exact (Below.heap_alloc w.drew _ g hglt).trans hg
  have hql1 : ∀ j u, q[j]? = some u → W1.cell? ((⟨vb, 0, none⟩ : Addr).add j) = some u := fun j u hj => by
    rw [Addr.add_lit, Nat.zero_add]; simp [World.cell?, hq1]; simpa using hj
  have hik : i * 1 ≤ xs.length := by rw [hxl]; omega
  have htl : (xs.take (i * 1)).length = i * 1 := by rw [List.length_take]; omega
  -- the first copy: the new one
  have hcp1 : ∀ ty dc oo, oo = i * 1 → (Builtin.copy_ #[55, 55] ty #[.slice (some ⟨w.heap.size, oo, none⟩) (c + 1 - i) dc, .slice (some ⟨vb, 0, none⟩) 1 1]).run Tryz.prog W1 = .ok (goInt 1) (W1.setRow w.heap.size (xs.take (i * 1) ++ q ++ Z.drop 1).toArray) := fun ty dc oo hoo => by
    subst hoo
    have hmin : Nat.min 1 (c + 1 - i) = 1 := by simp only [Nat.min_def]; split <;> omega
    have := copy_rowK (P := Tryz.prog) 1 W1 55 55 ty 9 w.heap.size (i * 1) (c + 1 - i) dc ⟨vb, 0, none⟩ 1 1 _ 9 q Tryz.underlying55 hsz hb1 (by rw [hmin, hql]) hql1 (by rw [List.size_toArray, List.length_append, htl, hZl, hql]; have : 1 * 1 ≤ (C - i) * 1 := Nat.mul_le_mul_right _ (by omega); omega) h1
    rw [hmin] at this
    rw [this]
    have es := splice_in xs q Z (i * 1) hik (by rw [hql, hZl]; omega)
    dsimp only
    rw [es, hql]
    rfl
  obtain ⟨W2, hW2⟩ : ∃ W2, W2 = W1.setRow w.heap.size (xs.take (i * 1) ++ q ++ Z.drop 1).toArray := ⟨_, rfl⟩
  rw [← hW2] at hcp1
  have hb2 : W2.drew.heap[w.heap.size]? = some (.cells (xs.take (i * 1) ++ q ++ Z.drop 1).toArray 9 (0, 0)) := by rw [hW2]; exact setRow_heap W1 _ _ _ _ _ hb1
  have hg2 : W2.drew.heap[g]? = some (.cells cur 9 (0, 0)) := by rw [hW2]; exact (setRow_other W1 _ g _ (by omega)).trans hg1
  -- the second copy: what stood behind
  have hcp2 : ∀ ty dc sc oo pp, oo = (i + 1) * 1 → pp = i * 1 → (Builtin.copy_ #[55, 55] ty #[.slice (some ⟨w.heap.size, oo, none⟩) (c - i) dc, .slice (some ⟨g, pp, none⟩) (c - i) sc]).run Tryz.prog W2.drew = .ok (goInt ((c - i : Nat) : Int)) (W2.drew.setRow w.heap.size (xs.take (i * 1) ++ q ++ xs.drop (i * 1) ++ Z.drop ((m) * 1)).toArray) := fun ty dc sc oo pp hoo hpp => by
    subst hoo hpp
    have hmin : Nat.min (c - i) (c - i) = c - i := Nat.min_self _
    have hdl : (xs.drop (i * 1)).length = (c - i) * 1 := by rw [List.length_drop, hxl]; omega
    have hf2 : (i + 1) * 1 + (xs.drop (i * 1)).length ≤ (xs.take (i * 1) ++ q ++ Z.drop 1).toArray.size := by
      rw [List.size_toArray, List.length_append, List.length_append, htl, hql, hdl, List.length_drop, hZl]
      have e7 : (c - i) * 1 + 1 * 1 ≤ (C - i) * 1 := by rw [← Nat.add_mul]; exact Nat.mul_le_mul_right _ (by omega)
      have e9 : (i + 1) * 1 = i * 1 + 1 * 1 := Nat.add_mul ..
      omega
    have := copy_rowK (P := Tryz.prog) 1 W2.drew 55 55 ty 9 w.heap.size ((i + 1) * 1) (c - i) dc ⟨g, i * 1, none⟩ (c - i) sc _ 9 (xs.drop (i * 1)) Tryz.underlying55 hsz hb2 (by rw [hmin, hdl]) (fun j u hj => by
      rw [Addr.add_lit]
      rw [List.getElem?_drop, hxs] at hj
      simp [World.cell?, hg2]
      simpa using hj) hf2 (fun v hv => hx1 v (List.mem_of_mem_drop hv))
    rw [hmin] at this
    rw [this]
    have ht : (xs.take (i * 1) ++ q).length = (i + 1) * 1 := by rw [List.length_append, htl, hql]; omega
    have e2 : (xs.take (i * 1) ++ q ++ Z.drop 1).take ((i + 1) * 1) ++ xs.drop (i * 1) ++ (xs.take (i * 1) ++ q ++ Z.drop 1).drop ((i + 1) * 1 + (xs.drop (i * 1)).length) = xs.take (i * 1) ++ q ++ xs.drop (i * 1) ++ Z.drop (m * 1) := by
      rw [List.take_append_of_le_length (by omega), List.take_of_length_le (by omega)]
      rw [List.drop_append, ht]
      have e1 : (xs.take (i * 1) ++ q).drop ((i + 1) * 1 + (xs.drop (i * 1)).length) = [] := by apply List.drop_eq_nil_of_le; omega
      rw [e1, List.nil_append, List.drop_drop, hdl]
      congr 2
      omega
    dsimp only
    rw [e2]
  obtain ⟨W3, hW3⟩ : ∃ W3, W3 = W2.drew.setRow w.heap.size (xs.take (i * 1) ++ q ++ xs.drop (i * 1) ++ Z.drop (m * 1)).toArray := ⟨_, rfl⟩
  rw [← hW3] at hcp2
  have HR : Hid (AppendK 1 B 9 w W3 (.slice (some ⟨g, 0, none⟩) c c) (.slice (some ⟨w.heap.size, 0, none⟩) (c + 1) C) (c + 1) (xs.take (i * 1) ++ q ++ xs.drop (i * 1))) := by
    have hL : (xs.take (i * 1) ++ q ++ xs.drop (i * 1)).length = (c + 1) * 1 := by
      rw [List.length_append, List.length_append, htl, hql, List.length_drop, hxl]
      have e9 : (c + 1) * 1 = c * 1 + 1 * 1 := Nat.add_mul ..
      have e8 : i * 1 ≤ c * 1 := Nat.mul_le_mul_right _ (by omega)
      omega
    refine ⟨⟨hL, .inr ⟨w.heap.size, C, _, rfl, hB, by rw [hW3]; exact setRow_heap W2.drew _ _ _ _ _ hb2, hC1, hC2, ?_, ?_⟩⟩, ?_, fun x hx => .inr (by simp [Value.ownBlock] at hx; omega), ⟨_, _, rfl⟩⟩
    · rw [List.size_toArray, List.length_append, hL, List.length_drop, hZl]; 
      have : m * 1 ≤ (C - i) * 1 := Nat.mul_le_mul_right _ (by omega)
      omega
    · rw [List.toList_toArray, ← hL]; exact List.take_left
    · rw [hW3, hW2, hW1]
      refine ⟨rfl, rfl, rfl, by simp [World.setRow], fun k hk _ => ?_⟩
      have : k ≠ w.heap.size := by omega
      rw [setRow_other _ _ k _ this]
      show (World.setRow _ _ _).heap[k]? = _
      rw [setRow_other _ _ k _ this]
      exact Below.heap_alloc w.drew _ k hk
  have z1 : ¬ ((i : Int) = (c : Int)) := by omega
  have z1' : ((i : Int) == (c : Int)) = false := by simpa using z1
  have z2 : IntKind.i64.wrap ((i : Int) + 1) = (i : Int) + 1 := by rw [IntKind.wrap_i64]; omega
  have z3 : (c : Int) + 1 - (i : Int) = (m : Int) := by omega
  have z4 : ¬ C = i := by omega
  have z5 : ¬ C = i + 1 := by omega
  have z6 : ¬ c = i := by omega
  have z7 : ((i : Int) + 1).toNat = i + 1 := by omega
  have z8 : (0 : Int) ≤ (i : Int) + 1 := by omega
  have z9 : (c : Int) < (c : Int) + 1 := by omega
  have z10 : i ≤ c := by omega
  have z11 : (i : Int) + 1 ≤ (c : Int) + 1 := by omega
  have Hzg : Hid _ := hzg'
  have hc1 := fun ty dc => hcp1 ty dc i (by omega)
  have hc2 := fun ty dc sc => hcp2 ty dc sc (i + 1) i (by omega) (by omega)
  clear hW1 hW2 hW3 hzg hzg' hcp1 hcp2 hb1 hb2 hg1 hg2 hq1 hql1 hrow hZ hC hold hcell hxs htk hcs hm e1 hg hq hxl hsz h1 hx1 hql hZl hik htl
  go_enter Tryz.func201, Tryz.ntmps201
  go_wp2_with (at_builtin; refine Lib.wpList_append_run _ rfl _ _ 55 3 rfl _ _ rfl rfl _ _ (Hzg.out _) ?_)
  go_region
  go_wp2
  go_ret
  exact ⟨_, rfl, HR.out⟩

set_option maxRecDepth 100000 in
set_option maxHeartbeats 4000000 in
/-- In the middle, with room: in place. -/
theorem insStr_shift (B : Nat) (n c i g : Nat) (cur : Array Value) (xs q : List Value) (vb : Nat) (w : World) (hg : w.heap[g]? = some (.cells cur 9 (0, 0))) (hBg : B ≤ g) (hcs : cur.size = c * 1) (htk : cur.toList.take (n * 1) = xs) (hi' : i < n) (hc : n + 1 ≤ c) (hc63 : c ≤ maxLen) (hn : n ≤ 100000) (hx1 : ∀ v ∈ xs, v.oneCell' = true)
    (hq : w.heap[vb]? = some (.cells q.toArray 9 (0, 0))) (hvb : vb ≠ g) (hql : q.length = 1) (h1 : ∀ v ∈ q, v.oneCell' = true) (hB : B ≤ w.heap.size) :
    Calls Tryz.prog 201 #[.slice (some ⟨g, 0, none⟩) n c, .int .i64 i, .slice (some ⟨vb, 0, none⟩) 1 1] w fun e w' => ∃ v', e = .returned v' ∧ AppendK 1 B 9 w w' (.slice (some ⟨g, 0, none⟩) n c) v' (n + 1) (xs.take (i * 1) ++ q ++ xs.drop (i * 1)) := by
  obtain ⟨i0, hi, hz0, hz1, hz2⟩ := infoStr_parts
  have hsz : (Tryz.prog.info? 9).map (·.size) = some 1 := by rw [hi]; simp [hz1]
  have hnc : n * 1 + 1 * 1 ≤ c * 1 := by rw [← Nat.add_mul]; exact Nat.mul_le_mul_right _ hc
  have hxl : xs.length = n * 1 := by rw [← htk, List.length_take, Array.length_toList, hcs]; omega
  have hik : i * 1 + 1 * 1 ≤ n * 1 := by rw [← Nat.add_mul]; exact Nat.mul_le_mul_right _ hi'
  obtain ⟨Y, hY⟩ : ∃ Y, Y = cur.toList.drop (n * 1) := ⟨_, rfl⟩
  have hcur : cur = (xs ++ Y).toArray := by
    apply Array.ext'; rw [List.toList_toArray, ← htk, hY, List.take_append_drop]
  have hYl : Y.length = c * 1 - n * 1 := by rw [hY, List.length_drop, Array.length_toList, hcs]
  have hcell : ∀ (W : World), W.heap[g]? = some (.cells (xs ++ Y).toArray 9 (0, 0)) → ∀ j u, xs[j]? = some u → W.cell? ⟨g, j, none⟩ = some u := fun W hW j u hj => by
    have hjl : j < xs.length := (List.getElem?_eq_some_iff.1 hj).1
    simp [World.cell?, hW]
    rw [List.getElem?_append_left hjl]; exact hj
  rw [hcur] at hg
  have htl : (xs.take (i * 1)).length = i * 1 := by rw [List.length_take]; omega
  have hdl : (xs.drop (i * 1)).length = (n - i) * 1 := by rw [List.length_drop, hxl, Nat.sub_mul]
  have hni : (n - i) * 1 = n * 1 - i * 1 := Nat.sub_mul ..
  -- the first copy: what stands behind goes up
  have hcp1 : ∀ ty dc sc oo pp, oo = (i + 1) * 1 → pp = i * 1 → (Builtin.copy_ #[55, 55] ty #[.slice (some ⟨g, oo, none⟩) (n - i) dc, .slice (some ⟨g, pp, none⟩) (n + 1 - i) sc]).run Tryz.prog w.drew = .ok (goInt ((n - i : Nat) : Int)) (w.drew.setRow g ((xs ++ Y).take ((i + 1) * 1) ++ xs.drop (i * 1) ++ (xs ++ Y).drop ((i + 1) * 1 + (n - i) * 1)).toArray) := fun ty dc sc oo pp hoo hpp => by
    subst hoo hpp
    have hmin : Nat.min (n + 1 - i) (n - i) = n - i := Nat.min_eq_right (by omega)
    have hf1 : (i + 1) * 1 + (xs.drop (i * 1)).length ≤ (xs ++ Y).toArray.size := by
      rw [List.size_toArray, List.length_append, hxl, hYl, hdl]
      have e9 : (i + 1) * 1 = i * 1 + 1 * 1 := Nat.add_mul ..
      omega
    have := copy_rowK (P := Tryz.prog) 1 w.drew 55 55 ty 9 g ((i + 1) * 1) (n - i) dc ⟨g, i * 1, none⟩ (n + 1 - i) sc _ 9 (xs.drop (i * 1)) Tryz.underlying55 hsz hg (by rw [hmin, hdl]) (fun j u hj => by
      rw [Addr.add_lit]
      rw [List.getElem?_drop] at hj
      exact hcell w hg _ u hj) hf1 (fun v hv => hx1 v (List.mem_of_mem_drop hv))
    rw [hmin, hdl] at this
    rw [this]
  obtain ⟨R1, hR1⟩ : ∃ R1, R1 = (xs ++ Y).take ((i + 1) * 1) ++ xs.drop (i * 1) ++ (xs ++ Y).drop ((i + 1) * 1 + (n - i) * 1) := ⟨_, rfl⟩
  rw [← hR1] at hcp1
  have e9 : (i + 1) * 1 = i * 1 + 1 * 1 := Nat.add_mul ..
  have ht1 : ((xs ++ Y).take ((i + 1) * 1)).length = (i + 1) * 1 := by rw [List.length_take, List.length_append, hxl, hYl]; omega
  have hR1l : R1.length = c * 1 := by
    rw [hR1, List.length_append, List.length_append, ht1, hdl, List.length_drop, List.length_append, hxl, hYl]; omega
  have hR1t : R1.take (i * 1) = xs.take (i * 1) := by
    rw [hR1, List.append_assoc, List.take_append_of_le_length (by rw [ht1]; omega), List.take_take, show min (i * 1) ((i + 1) * 1) = i * 1 by omega, List.take_append_of_le_length (by rw [hxl]; omega)]
  have hR1d : R1.drop ((i + 1) * 1) = xs.drop (i * 1) ++ (xs ++ Y).drop ((i + 1) * 1 + (n - i) * 1) := by
    rw [hR1, List.append_assoc, List.drop_append, ht1, List.drop_eq_nil_of_le (by rw [ht1]; exact Nat.le_refl _), Nat.sub_self]; rfl
  obtain ⟨W1, hW1⟩ : ∃ W1, W1 = w.drew.setRow g R1.toArray := ⟨_, rfl⟩
  rw [← hW1] at hcp1
  have hg1 : W1.heap[g]? = some (.cells R1.toArray 9 (0, 0)) := by rw [hW1]; exact setRow_heap w.drew g _ _ _ _ hg
  have hq1 : W1.heap[vb]? = some (.cells q.toArray 9 (0, 0)) := by rw [hW1]; exact (setRow_other w.drew g vb _ hvb).trans hq
  -- the second copy: the new one
  have hcp2 : ∀ ty dc pp, pp = i * 1 → (Builtin.copy_ #[55, 55] ty #[.slice (some ⟨g, pp, none⟩) (n + 1 - i) dc, .slice (some ⟨vb, 0, none⟩) 1 1]).run Tryz.prog W1 = .ok (goInt 1) (W1.setRow g (xs.take (i * 1) ++ q ++ xs.drop (i * 1) ++ (xs ++ Y).drop ((i + 1) * 1 + (n - i) * 1)).toArray) := fun ty dc pp hpp => by
    subst hpp
    have hmin : Nat.min 1 (n + 1 - i) = 1 := Nat.min_eq_left (by omega)
    have := copy_rowK (P := Tryz.prog) 1 W1 55 55 ty 9 g (i * 1) (n + 1 - i) dc ⟨vb, 0, none⟩ 1 1 _ 9 q Tryz.underlying55 hsz hg1 (by rw [hmin, hql]) (fun j u hj => by
      rw [Addr.add_lit, Nat.zero_add]; simp [World.cell?, hq1]; simpa using hj) (by rw [List.size_toArray, hR1l, hql]; omega) h1
    rw [hmin] at this
    rw [this]
    dsimp only
    rw [hR1t, hql, show i * 1 + 1 = (i + 1) * 1 by omega, hR1d, ← List.append_assoc]
    rfl
  obtain ⟨W2, hW2⟩ : ∃ W2, W2 = W1.setRow g (xs.take (i * 1) ++ q ++ xs.drop (i * 1) ++ (xs ++ Y).drop ((i + 1) * 1 + (n - i) * 1)).toArray := ⟨_, rfl⟩
  rw [← hW2] at hcp2
  have HR : Hid (AppendK 1 B 9 w W2 (.slice (some ⟨g, 0, none⟩) n c) (.slice (some ⟨g, 0, none⟩) (n + 1) c) (n + 1) (xs.take (i * 1) ++ q ++ xs.drop (i * 1))) := by
    have hL : (xs.take (i * 1) ++ q ++ xs.drop (i * 1)).length = (n + 1) * 1 := by
      rw [List.length_append, List.length_append, htl, hql, hdl]
      have e9 : (n + 1) * 1 = n * 1 + 1 * 1 := Nat.add_mul ..
      omega
    refine ⟨⟨hL, .inr ⟨g, c, _, rfl, hBg, by rw [hW2]; exact setRow_heap W1 _ _ _ _ _ hg1, hc, hc63, ?_, ?_⟩⟩, ?_, fun x hx => .inl hx, ⟨_, _, rfl⟩⟩
    · rw [List.size_toArray, List.length_append, hL, List.length_drop, List.length_append, hxl, hYl]
      have e8 : (n + 1) * 1 = n * 1 + 1 * 1 := Nat.add_mul ..
      omega
    · rw [List.toList_toArray, ← hL]; exact List.take_left
    · rw [hW2, hW1]
      refine ⟨rfl, rfl, rfl, by simp [World.setRow], fun k hk hne => ?_⟩
      have : k ≠ g := fun e => hne (by rw [e]; rfl)
      rw [setRow_other _ _ k _ this]
      show (World.setRow _ _ _).heap[k]? = _
      rw [setRow_other _ _ k _ this]
      rfl
  have hov : ∀ lb cb oo, (callFunc 220 #[.slice (some ⟨vb, 0, none⟩) 1 1, .slice (some ⟨g, oo, none⟩) lb cb]).run Tryz.prog w = .ok (.value (.bool false)) w := fun lb cb oo => by
    have hsa : w.shape? vb = some (9, 1) := by simp [World.shape?, hq, hql]
    have hsb : w.shape? g = some (9, c * 1) := by simp [World.shape?, hg, hxl, hYl]; omega
    rw [run_callFunc_extern Tryz.func220 (by kernel_rfl) (by kernel_rfl) (by kernel_rfl) (e := Extern.SlicesOverlaps.overlaps #[55, 55] #[4]) (by kernel_rfl),
      Lib.run_overlaps_apart w 55 4 9 Tryz.underlying55 1 sizeStr ⟨vb, 0, none⟩ ⟨g, oo, none⟩ 1 1 lb cb hvb _ _ 1 (c * 1) hsa hsb (by omega) (by simp [World.frozen?, hq]) (by simp [World.frozen?, hq])]
    rfl
  have z1 : ¬ ((i : Int) = (n : Int)) := by omega
  have z1' : ((i : Int) == (n : Int)) = false := by simpa using z1
  have z2 : IntKind.i64.wrap ((i : Int) + 1) = (i : Int) + 1 := by rw [IntKind.wrap_i64]; omega
  have z4 : ¬ c = i := by omega
  have z5 : ¬ c = i + 1 := by omega
  have z7 : ((i : Int) + 1).toNat = i + 1 := by omega
  have z8 : (0 : Int) ≤ (i : Int) + 1 := by omega
  have z9 : ¬ (c : Int) < (n : Int) + 1 := by omega
  have z10 : i ≤ n := by omega
  have z11 : (i : Int) + 1 ≤ (n : Int) + 1 := by omega
  have z12 : (n : Int) + 1 ≤ (c : Int) := by omega
  have z13 : (i : Int) ≤ (n : Int) + 1 := by omega
  have hc1 := fun ty dc sc => hcp1 ty dc sc (i + 1) i (by omega) (by omega)
  have hc2 := fun ty dc => hcp2 ty dc i (by omega)
  have Hov : Hid _ := hov
  clear hW1 hW2 hcp1 hcp2 hg1 hq1 hcell htk hcs hg hq hsz h1 hx1 hql hik htl hdl hni hR1 hR1l hR1t hR1d ht1 hYl hY hcur hxl hov hnc e9
  unfold maxLen at hc63
  go_enter Tryz.func201, Tryz.ntmps201
  go_wp2_with (simp only [Hov.out])
  go_region
  go_wp2
  go_ret
  exact ⟨_, rfl, HR.out⟩

/-- Anywhere. -/
theorem insStr_any (B : Nat) (v : Value) (n i : Nat) (xs q : List Value) (vb : Nat) (w : World) (hown : w.ownsRow B 9 1 v n xs) (hi : i ≤ n) (hn : n ≤ 100000) (hx1 : ∀ v ∈ xs, v.oneCell' = true)
    (hq : w.heap[vb]? = some (.cells q.toArray 9 (0, 0))) (hvb : v.ownBlock ≠ some vb) (hql : q.length = 1) (h1 : ∀ v ∈ q, v.oneCell' = true) (hB : B ≤ w.heap.size) :
    Calls Tryz.prog 201 #[v, .int .i64 i, .slice (some ⟨vb, 0, none⟩) 1 1] w fun e w' => ∃ v', e = .returned v' ∧ AppendK 1 B 9 w w' v v' (n + 1) (xs.take (i * 1) ++ q ++ xs.drop (i * 1)) := by
  by_cases hin : i = n
  · subst hin
    have hl := hown.1
    have := insStr_end B v i xs q vb w hown hn hq hql h1 hB
    rw [List.take_of_length_le (by omega), List.drop_eq_nil_of_le (by omega), List.append_nil]
    exact this
  · rcases hown.2 with ⟨_, h0⟩ | ⟨g, cap, cur, rfl, hBg, hg, hnc, hcm, hcs, htk⟩
    · omega
    · by_cases hroom : n + 1 ≤ cap
      · exact insStr_shift B n cap i g cur xs q vb w hg hBg hcs htk (by omega) hroom hcm hn hx1 hq (fun e => hvb (by rw [e]; rfl)) hql h1 hB
      · exact insStr_grow B n cap i g cur xs q vb w hg hcs htk (by omega) hnc (by omega) hn hx1 hq hql h1 hB

end Go.Proofs.YtmajlldfiiokoaaGreatDoor

/- table.Join. -/
namespace Go.Proofs.YtmajlldfiiokoaaGreatDoor
open Go.ChangeShapes Go.WideShapes Go.ChangeAt Go.RowKit
set_option linter.unusedVariables false

/-- The entries lie where the slice shows, each with its filters. -/
def EntIn (w : World) (a : Option Addr) (len : Nat) (X : List Ep) : Prop := X.length = len ∧ len ≤ 100000 ∧ (len = 0 ∨ ∃ b o, a = some ⟨b, o, none⟩ ∧ b < w.heap.size ∧ ∀ i, i < len → (StrIn w (X.getD i ep0).a (X.getD i ep0).ln (X.getD i ep0).fs ∧ (X.getD i ep0).ln ≤ 100000) ∧ ∀ j, j < 5 → w.cell? ⟨b, o + i * 5 + j, none⟩ = (X.getD i ep0).cells[j]?)
theorem StrIn.below {w w' : World} {a : Option Addr} {len : Nat} {L : List ByteArray} (h : StrIn w a len L) {B : Nat} (hB : w.heap.size ≤ B) (hb : Below B w w') : StrIn w' a len L := by
  refine ⟨h.1, ?_⟩
  rcases h.2 with h0 | ⟨b, o, ha, hlt, hc⟩
  · exact .inl h0
  · exact .inr ⟨b, o, ha, by have := hb.size; omega, fun j hj => (hb.cell (p := ⟨b, o + j, none⟩) (by show b < B; omega)).trans (hc j hj)⟩
theorem EntIn.below {w w' : World} {a : Option Addr} {len : Nat} {X : List Ep} (h : EntIn w a len X) (hb : Below w.heap.size w w') : EntIn w' a len X := by
  refine ⟨h.1, h.2.1, ?_⟩
  rcases h.2.2 with h0 | ⟨b, o, ha, hlt, hc⟩
  · exact .inl h0
  · exact .inr ⟨b, o, ha, by have := hb.size; omega, fun i hi => ⟨⟨(hc i hi).1.1.below (Nat.le_refl _) hb, (hc i hi).1.2⟩, fun j hj => (hb.cell (p := ⟨b, o + i * 5 + j, none⟩) hlt).trans ((hc i hi).2 j hj)⟩⟩
theorem EntIn.at {w : World} {a : Option Addr} {len : Nat} {X : List Ep} (h : EntIn w a len X) {i : Nat} (hi : i < len) : ∃ b o, a = some ⟨b, o, none⟩ ∧ b < w.heap.size ∧ StrIn w (X.getD i ep0).a (X.getD i ep0).ln (X.getD i ep0).fs ∧ (X.getD i ep0).ln ≤ 100000 ∧
    w.cell? ⟨b, o + i * 5, none⟩ = some (.string (X.getD i ep0).gr) ∧ w.cell? ⟨b, o + i * 5 + 1, none⟩ = some (.int .i64 (X.getD i ep0).ch) ∧ w.cell? ⟨b, o + i * 5 + 2, none⟩ = some (.slice (X.getD i ep0).a (X.getD i ep0).ln (X.getD i ep0).cp) ∧
    w.cell? ⟨b, o + i * 5 + 3, none⟩ = some (.bool (X.getD i ep0).any) ∧ w.cell? ⟨b, o + i * 5 + 4, none⟩ = some (.int .i64 (X.getD i ep0).till) := by
  obtain ⟨b, o, ha, hlt, hc⟩ := h.2.2.resolve_left (by omega)
  obtain ⟨⟨h1, h2⟩, h3⟩ := hc i hi
  refine ⟨b, o, ha, hlt, h1, h2, ?_, ?_, ?_, ?_, ?_⟩
  · have := h3 0 (by omega); simpa [Ep.cells] using this
  · have := h3 1 (by omega); simpa [Ep.cells] using this
  · have := h3 2 (by omega); simpa [Ep.cells] using this
  · have := h3 3 (by omega); simpa [Ep.cells] using this
  · have := h3 4 (by omega); simpa [Ep.cells] using this

/-- The filters so far, in a row of one's own. -/
structure JnS (w wr : World) (v : Value) (acc : List ByteArray) : Prop where
  row : wr.ownsRow w.heap.size 9 1 v acc.length (acc.map Value.string)
  bel : Below w.heap.size w wr
  asc : Asc ltS acc
  le : acc.length ≤ 16
theorem row_atJ {w w' : World} {B : Nat} {e : TypeId} {k n : Nat} {vs : Value} {xs : List Value} (h : w.ownsRow B e k vs n xs) (hb : ∀ x, vs.ownBlock = some x → w'.heap[x]? = w.heap[x]?) : w'.ownsRow B e k vs n xs := by
  refine ⟨h.1, ?_⟩
  rcases h.2 with h1 | ⟨g', cap, cur, hv, hbg, hg, hr⟩
  · exact .inl h1
  · exact .inr ⟨g', cap, cur, hv, hbg, (hb g' (by rw [hv]; rfl)).trans hg, hr⟩
theorem JnS.below {w wr w' : World} {v : Value} {acc : List ByteArray} (h : JnS w wr v acc) (hb : Below wr.heap.size wr w') : JnS w w' v acc :=
  ⟨row_atJ h.row (fun k hk => hb.block k (h.row.lt k hk).2), h.bel.trans (hb.mono h.bel.size), h.asc, h.le⟩
theorem JnS.shape {w wr : World} {v : Value} {acc : List ByteArray} (h : JnS w wr v acc) : ∃ a c, v = .slice a acc.length c := by
  rcases h.row.2 with ⟨rfl, h2⟩ | ⟨gg, c, cur, hv, _⟩
  · exact ⟨none, 0, by rw [h2]⟩
  · exact ⟨_, c, hv⟩
theorem strIn_own {w : World} {B : Nat} {a : Option Addr} {n c : Nat} {L : List ByteArray} (h : w.ownsRow B 9 1 (.slice a n c) n (L.map Value.string)) (hn : n = L.length) : StrIn w a n L := by
  refine ⟨hn.symm, ?_⟩
  rcases h.2 with ⟨_, h0⟩ | ⟨g, cap, cur, hv, _, hg, _⟩
  · exact .inl h0
  · have hc := h.cells (g := g) (by rw [hv]; rfl)
    simp only [Value.slice.injEq] at hv
    refine .inr ⟨g, 0, hv.1, (Array.getElem?_eq_some_iff.1 hg).1, fun j hj => ?_⟩
    have := hc j (.string (L.getD j ByteArray.empty)) (by
      rw [List.getElem?_map, List.getD_eq_getElem?_getD, List.getElem?_eq_getElem (by omega)]; rfl)
    rw [Addr.add_lit] at this
    exact this
theorem JnS.new (w : World) : JnS w w (.slice none 0 0) [] := ⟨World.ownsRow_nil _ _ _ _, Below.refl _ _, List.Pairwise.nil, by simp⟩
/-- One more. -/
theorem JnS.put {w wr w' : World} {v v' : Value} {acc : List ByteArray} {f : ByteArray} (h : JnS w wr v acc) (hf : f ∉ acc) (h16 : acc.length < 16)
    (ha : AppendK 1 w.heap.size 9 (wr.alloc (.cells #[.string f] 9)) w' v v' (acc.length + 1) ((acc.map Value.string).take (lb ltS acc f * 1) ++ [.string f] ++ (acc.map Value.string).drop (lb ltS acc f * 1))) : JnS w w' v' (putIn ltS acc f) := by
  have e : (putIn ltS acc f).map Value.string = (acc.map Value.string).take (lb ltS acc f * 1) ++ [.string f] ++ (acc.map Value.string).drop (lb ltS acc f * 1) := by
    unfold putIn; simp [Nat.mul_one, List.map_take, List.map_drop]
  refine ⟨?_, ?_, asc_putIn linS acc h.asc f hf, by rw [len_putIn]; omega⟩
  · rw [e, len_putIn]; exact ha.row
  · exact h.bel.trans (((Below.refl _ _).alloc (by exact h.bel.size) _).trans ⟨ha.grown.os, ha.grown.tape, ha.grown.output, ha.grown.size, fun k hk => ha.grown.block k (by have := h.bel.size; simp; omega) (fun e => by have := (h.row.lt k e.symm).1; omega)⟩)

set_option maxRecDepth 100000 in
set_option maxHeartbeats 4000000 in
theorem join_any (a : Option Addr) (len c : Nat) (X : List Ep) (w : World) (h : EntIn w a len X) :
    Calls Tryz.prog 166 #[.slice a len c] w fun e w' =>
      (joinE [] (X.map Ep.want) = none ∧ e = .returned (.tuple #[.slice none 0 0, .bool true]) ∧ Below w.heap.size w w') ∨
      (∃ acc v, joinE [] (X.map Ep.want) = some acc ∧ e = .returned (.tuple #[v, .bool false]) ∧ JnS w w' v acc) := by
  have HX : Hid (EntIn w a len X) := h
  have hlen := h.2.1
  clear h
  go_enter Tryz.func166, Tryz.ntmps166
  go_wp2
  go_loopg [4, 13] len (fun kx s4 s13 wr => ∃ (i n cc : Nat) (aa : Option Addr) (acc : List ByteArray), s13 = .int .i64 i ∧ i ≤ len ∧ kx = len - i ∧ s4 = .slice aa n cc ∧ n ≤ 16 ∧ Hid (n = acc.length ∧ JnS w wr (.slice aa n cc) acc ∧ joinE [] (X.map Ep.want) = joinE acc ((X.map Ep.want).drop i)))
  case atStart => exact ⟨0, 0, 0, none, [], rfl, Nat.zero_le _, rfl, rfl, by omega, (⟨rfl, JnS.new w, rfl⟩ : 0 = List.length _ ∧ JnS _ _ _ _ ∧ _)⟩
  case round =>
    obtain ⟨i, n, cc, aa, acc, rfl, hil, rfl, rfl, hn16, H⟩ := hrel
    by_cases hlt : i < len
    · obtain ⟨b, o, ha, hb, _, hln, c0, c1, c2, c3, c4⟩ := (HX.out.below H.out.2.1.bel).at hlt
      have hs : StrIn w (X.getD i ep0).a (X.getD i ep0).ln (X.getD i ep0).fs := by
        obtain ⟨_, _, _, _, hs, _⟩ := HX.out.at hlt
        exact hs
      subst ha
      have hstep : (X.map Ep.want).drop i = (X.getD i ep0).want :: (X.map Ep.want).drop (i + 1) := by
        have hXl := HX.out.1
        rw [drop_cons (ep0.want) (X.map Ep.want) i (by simp; omega)]
        congr 1
        rw [List.getD_eq_getElem?_getD, List.getElem?_map, List.getD_eq_getElem?_getD, List.getElem?_eq_getElem (by omega)]; rfl
      obtain ⟨x, hx⟩ : ∃ x, x = X.getD i ep0 := ⟨_, rfl⟩
      rw [← hx] at hs hln c0 c1 c2 c3 c4 hstep
      have HJ : Hid (joinE [] (X.map Ep.want) = joinE acc (x.want :: (X.map Ep.want).drop (i + 1))) := by rw [← hstep]; exact H.out.2.2
      clear hx hstep
      obtain ⟨gr, ch, fa, fl, fc, any, till, fs⟩ := x
      simp only at hs hln c0 c1 c2 c3 c4
      have hi0 : (0 : Int) ≤ (i : Int) := Int.natCast_nonneg _
      have hi1 : (i : Int) < (len : Int) := by omega
      have HS : Hid (StrIn w fa fl fs) := hs
      clear hs
      cases any with
      | true =>
        have HN : Hid (joinE [] (X.map Ep.want) = none) := (by rw [HJ.out]; simp [joinE, Ep.want] : joinE [] (X.map Ep.want) = none)
        go_wp2
        go_ret2
        exact .inl ⟨HN.out, rfl, H.out.2.1.bel.trans (((Below.refl _ _).alloc (by exact H.out.2.1.bel.size) _))⟩
      | false =>
        have HJ2 : Hid (∀ r, joinF acc fs = some r → joinE [] (X.map Ep.want) = joinE r ((X.map Ep.want).drop (i + 1))) := fun r hr => by rw [HJ.out]; simp [joinE, Ep.want, hr]
        have HJ3 : Hid (joinF acc fs = none → joinE [] (X.map Ep.want) = none) := fun hr => by rw [HJ.out]; simp [joinE, Ep.want, hr]
        have HW : Hid (JnS w (wr.alloc (.cells #[.string gr, .int .i64 ch, .slice fa fl fc, .bool false, .int .i64 till] 89)) (.slice aa n cc) acc ∧ n = acc.length) := ⟨H.out.2.1.below ((Below.refl _ _).alloc (Nat.le_refl _) _), H.out.1⟩
        clear HJ H
        go_wp2
        obtain ⟨w1, hw1⟩ : ∃ w1, w1 = wr.alloc (.cells #[.string gr, .int .i64 ch, .slice fa fl fc, .bool false, .int .i64 till] 89) := ⟨_, rfl⟩
        rw [← hw1] at HW ⊢
        clear hw1 c0 c1 c2 c3 c4
        go_loopg [4, 22] fl (fun ky s4 s22 wq => ∃ (j n2 c2 : Nat) (a2 : Option Addr) (acc2 : List ByteArray), s22 = .int .i64 j ∧ j ≤ fl ∧ ky = fl - j ∧ s4 = .slice a2 n2 c2 ∧ n2 ≤ 16 ∧ Hid (n2 = acc2.length ∧ JnS w wq (.slice a2 n2 c2) acc2 ∧ joinF acc fs = joinF acc2 (fs.drop j)))
        case atStart => exact ⟨0, n, cc, aa, acc, rfl, Nat.zero_le _, rfl, rfl, hn16, (⟨HW.out.2, HW.out.1, rfl⟩ : n = List.length _ ∧ JnS _ _ _ _ ∧ _)⟩
        case round =>
          obtain ⟨j, n2, c2, a2, acc2, rfl, hjl, rfl, rfl, hn2, H2⟩ := hrel
          rename World => wq
          clear HW
          by_cases hj : j < fl
          · obtain ⟨b2, o2, ha2, hb2, hc2⟩ := (HS.out.below (Nat.le_refl _) H2.out.2.1.bel).2.resolve_left (by omega)
            subst ha2
            have hcj := hc2 j hj
            have hjstep : fs.drop j = fs.getD j ByteArray.empty :: fs.drop (j + 1) := drop_cons _ fs j (by have := HS.out.1; omega)
            obtain ⟨f, hf⟩ : ∃ f, f = fs.getD j ByteArray.empty := ⟨_, rfl⟩
            rw [← hf] at hcj hjstep
            have HF : Hid (joinF acc fs = joinF acc2 (f :: fs.drop (j + 1))) := (by rw [← hjstep]; exact H2.out.2.2 : joinF acc fs = joinF acc2 (f :: fs.drop (j + 1)))
            clear hf hc2 hjstep
            have hj0 : (0 : Int) ≤ (j : Int) := Int.natCast_nonneg _
            have hj1 : (j : Int) < (fl : Int) := by omega
            have hrow := H2.out.2.1.row
            rw [← H2.out.1] at hrow
            have hbs := bs_any a2 n2 c2 acc2 f wq (strIn_own hrow H2.out.1) H2.out.2.1.asc (by omega)
            have HBS : Hid _ := hbs
            clear hbs hrow
            cases hh : hasS acc2 f with
            | true =>
              have HH : Hid (hasS acc2 f = true) := hh
              have HF2 : Hid (joinF acc fs = joinF acc2 (fs.drop (j + 1))) := (by rw [HF.out]; simp [joinF, hh] : joinF acc fs = joinF acc2 (fs.drop (j + 1)))
              clear hh
              go_wp2_with (go_at_call 200; refine Calls.mono HBS.out ?_; rintro e w' ⟨rfl, hw'⟩; subst w'; rw [HH.out])
              go_roundg (fl - (j + 1))
              case measure => omega
              case rel => exact ⟨j + 1, n2, c2, a2, acc2, by go_num, by omega, rfl, rfl, hn2, (⟨H2.out.1, H2.out.2.1, HF2.out⟩ : n2 = List.length _ ∧ JnS _ _ _ _ ∧ _)⟩
            | false =>
              have HH : Hid (hasS acc2 f = false) := hh
              have HNot : Hid (f ∉ acc2) := fun q => by have := (hasS_iff acc2 f).2 q; rw [hh] at this; cases this
              by_cases h16 : n2 = 16
              · have HF2 : Hid (joinF acc fs = none) := (by rw [HF.out]; simp [joinF, hh, ← H2.out.1, h16] : joinF acc fs = none)
                subst h16
                clear hh
                go_wp2_with (go_at_call 200; refine Calls.mono HBS.out ?_; rintro e w' ⟨rfl, hw'⟩; subst w'; rw [HH.out])
                go_ret2
                exact .inl ⟨HJ3.out HF2.out, rfl, H2.out.2.1.bel⟩
              · have HF2 : Hid (joinF acc fs = joinF (putIn ltS acc2 f) (fs.drop (j + 1))) := (by
                  have : ¬ acc2.length = 16 := by rw [← H2.out.1]; exact h16
                  rw [HF.out]; simp [joinF, hh, this] : joinF acc fs = joinF (putIn ltS acc2 f) (fs.drop (j + 1)))
                clear hh
                have hn16' : ((n2 : Int) == 16) = false := by simp; omega
                have hlb : lb ltS acc2 f ≤ n2 := by rw [H2.out.1]; exact lb_le _ _
                have hins := insStr_any w.heap.size (.slice a2 n2 c2) n2 (lb ltS acc2 f) (acc2.map Value.string) [.string f] wq.heap.size (wq.alloc (.cells #[.string f] 9))
                  (row_atJ (by have := H2.out.2.1.row; rw [← H2.out.1] at this; exact this) (fun k hk => Below.heap_alloc _ _ _ (H2.out.2.1.row.lt k hk).2)) hlb (by omega)
                  (fun v hv => by obtain ⟨s, _, rfl⟩ := List.mem_map.1 hv; rfl) (heap_alloc_new _ _) (fun e => by have := (H2.out.2.1.row.lt _ e).2; omega) rfl (fun v hv => by simp at hv; subst hv; rfl) (by have := H2.out.2.1.bel.size; simp; omega)
                obtain ⟨l, hl⟩ : ∃ l, l = lb ltS acc2 f := ⟨_, rfl⟩
                rw [← hl] at HBS hins hlb
                have HI : Hid _ := hins
                have HL : Hid (l = lb ltS acc2 f) := hl
                clear hins hl
                go_wp2_with (first
                  | (go_at_call 200; refine Calls.mono HBS.out ?_; rintro e w' ⟨rfl, hw'⟩; subst w'; rw [HH.out])
                  | (go_at_call 201; refine Calls.mono HI.out ?_; rintro e w3 ⟨v3, rfl, ha3⟩))
                have hput := JnS.put (w := w) (acc := acc2) (f := f) (by exact H2.out.2.1) HNot.out (by rw [← H2.out.1]; omega) (by rw [← HL.out, ← H2.out.1]; exact ha3)
                obtain ⟨a3, c3, hv3⟩ := ha3.shape
                subst hv3
                have H3 : Hid (n2 + 1 = (putIn ltS acc2 f).length ∧ JnS w w3 (.slice a3 (n2 + 1) c3) (putIn ltS acc2 f)) := ⟨by rw [len_putIn, ← H2.out.1], hput⟩
                clear ha3 hput
                go_wp2
                go_roundg (fl - (j + 1))
                case measure => omega
                case rel => exact ⟨j + 1, n2 + 1, c3, a3, putIn ltS acc2 f, by go_num, by omega, rfl, rfl, by omega, (⟨H3.out.1, H3.out.2, HF2.out⟩ : n2 + 1 = List.length _ ∧ JnS _ _ _ _ ∧ _)⟩
          · have hj1 : ¬ (j : Int) < (fl : Int) := by omega
            have HF2 : Hid (joinF acc fs = some acc2) := (by rw [H2.out.2.2, List.drop_eq_nil_of_le (by have := HS.out.1; omega)]; rfl : joinF acc fs = some acc2)
            go_wp2
            go_roundg (len - (i + 1))
            case measure => omega
            case rel => exact ⟨i + 1, n2, c2, a2, acc2, by go_num, by omega, rfl, rfl, hn2, (⟨H2.out.1, H2.out.2.1, HJ2.out _ HF2.out⟩ : n2 = List.length _ ∧ JnS _ _ _ _ ∧ _)⟩
    · have hi1 : ¬ (i : Int) < (len : Int) := by omega
      have HE : Hid (joinE [] (X.map Ep.want) = some acc) := by
        show _ = _
        rw [H.out.2.2, List.drop_eq_nil_of_le (by have := HX.out.1; simp; omega)]; rfl
      go_wp2
      go_ret2
      exact .inr ⟨acc, HE.out, _, rfl, H.out.2.1⟩
end Go.Proofs.YtmajlldfiiokoaaGreatDoor

/- table.order; slices.BinarySearchFunc of entries that rise. -/
namespace Go.Proofs.YtmajlldfiiokoaaGreatDoor
open Go.ChangeShapes Go.WideShapes Go.ChangeAt Go.RowKit
set_option linter.unusedVariables false

def cmpS (x y : ByteArray) : Int := if ltS x y then -1 else if x.toList == y.toList then 0 else 1
def cmpI (x y : Int) : Int := if x < y then -1 else if y < x then 1 else 0
def cmpO (x y : Int) : Int := if x = 0 then y else x
def cmpK (a b : ByteArray × Int) : Int := cmpO (cmpS a.1 b.1) (cmpI a.2 b.2)
theorem cmpK_neg (a b : ByteArray × Int) : (cmpK a b < 0) ↔ ltK a b = true := by
  unfold cmpK cmpO cmpS cmpI ltK
  by_cases h1 : ltS a.1 b.1 = true
  · simp [h1]
  · have h1' : ltS a.1 b.1 = false := by simpa using h1
    by_cases h2 : a.1.toList = b.1.toList
    · simp only [h1', h2, Bool.false_eq_true, if_false, beq_self_eq_true, if_true, Bool.false_or, Bool.true_and, decide_eq_true_eq]
      by_cases h3 : a.2 < b.2
      · simp [h3]
      · by_cases h4 : b.2 < a.2 <;> simp [h3, h4]
    · simp [h1', h2]
theorem cmpK_zero (a b : ByteArray × Int) : (cmpK a b = 0) ↔ a = b := by
  unfold cmpK cmpO cmpS cmpI
  by_cases h1 : ltS a.1 b.1 = true
  · have : a ≠ b := fun e => by rw [e, linS.irr] at h1; cases h1
    simp [h1, this]
  · have h1' : ltS a.1 b.1 = false := by simpa using h1
    by_cases h2 : a.1.toList = b.1.toList
    · have e := bytes_inj h2
      simp only [h1', h2, Bool.false_eq_true, if_false, beq_self_eq_true, if_true]
      by_cases h3 : a.2 < b.2
      · have : a ≠ b := fun q => by rw [q] at h3; omega
        simp [h3, this]
      · by_cases h4 : b.2 < a.2
        · have : a ≠ b := fun q => by rw [q] at h4; omega
          simp [h3, h4, this]
        · have : a = b := Prod.ext e (by omega)
          simp [this]
    · have : a ≠ b := fun q => h2 (by rw [q])
      simp [h1', h2, this]
theorem cnan_i (x : Int) (w : World) : Calls Tryz.prog 183 #[.int .i64 x] w fun e w' => e = .returned (.bool false) ∧ w' = w := by
  go_enter Tryz.func183, Tryz.ntmps183
  go_wp2
  go_ret
  exact ⟨by simp, rfl⟩
theorem cmps_any (x y : ByteArray) (w : World) : Calls Tryz.prog 198 #[.string x, .string y] w fun e w' => e = .returned (.int .i64 (cmpS x y)) ∧ w' = w := by
  by_cases h1 : Op.bytesLess x.toList y.toList = true
  · have E : Hid (cmpS x y = -1) := (by simp [cmpS, ltS, h1] : cmpS x y = -1)
    go_enter Tryz.func198, Tryz.ntmps198
    go_wp2_with (go_at_call 218; refine (cnan_s _ _).mono ?_; rintro e w' ⟨rfl, rfl⟩)
    go_ret
    exact ⟨ret_i E.out.symm, rfl⟩
  · have h1' : Op.bytesLess x.toList y.toList = false := by simpa using h1
    by_cases h2 : x.toList = y.toList
    · have h2' : (x.toList == y.toList) = true := by simpa using h2
      have E : Hid (cmpS x y = 0) := (by simp [cmpS, ltS, h1', h2'] : cmpS x y = 0)
      clear h1 h2
      go_enter Tryz.func198, Tryz.ntmps198
      go_wp2_with (go_at_call 218; refine (cnan_s _ _).mono ?_; rintro e w' ⟨rfl, rfl⟩)
      go_ret
      exact ⟨ret_i E.out.symm, rfl⟩
    · have h2' : (x.toList == y.toList) = false := by simpa using h2
      have E : Hid (cmpS x y = 1) := (by simp [cmpS, ltS, h1', h2'] : cmpS x y = 1)
      clear h1
      go_enter Tryz.func198, Tryz.ntmps198
      go_wp2_with (go_at_call 218; refine (cnan_s _ _).mono ?_; rintro e w' ⟨rfl, rfl⟩)
      go_ret
      exact ⟨ret_i E.out.symm, rfl⟩
theorem cmpi_any (x y : Int) (w : World) : Calls Tryz.prog 199 #[.int .i64 x, .int .i64 y] w fun e w' => e = .returned (.int .i64 (cmpI x y)) ∧ w' = w := by
  by_cases h1 : x < y
  · have E : Hid (cmpI x y = -1) := (by simp [cmpI, h1] : cmpI x y = -1)
    go_enter Tryz.func199, Tryz.ntmps199
    go_wp2_with (go_at_call 183; refine (cnan_i _ _).mono ?_; rintro e w' ⟨rfl, rfl⟩)
    go_ret
    exact ⟨ret_i E.out.symm, rfl⟩
  · by_cases h2 : y < x
    · have E : Hid (cmpI x y = 1) := (by simp [cmpI, h1, h2] : cmpI x y = 1)
      go_enter Tryz.func199, Tryz.ntmps199
      go_wp2_with (go_at_call 183; refine (cnan_i _ _).mono ?_; rintro e w' ⟨rfl, rfl⟩)
      go_ret
      exact ⟨ret_i E.out.symm, rfl⟩
    · have E : Hid (cmpI x y = 0) := (by simp [cmpI, h1, h2] : cmpI x y = 0)
      go_enter Tryz.func199, Tryz.ntmps199
      go_wp2_with (go_at_call 183; refine (cnan_i _ _).mono ?_; rintro e w' ⟨rfl, rfl⟩)
      go_ret
      exact ⟨ret_i E.out.symm, rfl⟩
set_option maxHeartbeats 1000000 in
theorem or_any (b : Nat) (x y : Int) (w : World) (hb : b < w.heap.size) (h0 : w.cell? ⟨b, 0, none⟩ = some (.int .i64 x)) (h1 : w.cell? ⟨b, 1, none⟩ = some (.int .i64 y)) :
    Calls Tryz.prog 197 #[.slice (some ⟨b, 0, none⟩) 2 2] w fun e w' => e = .returned (.int .i64 (cmpO x y)) ∧ w' = w := by
  go_enter Tryz.func197, Tryz.ntmps197
  go_wp2
  go_loop [8] (fun s => ∃ j : Nat, s = .int .i64 j ∧ j ≤ 2 ∧ (1 ≤ j → x = 0) ∧ (2 ≤ j → y = 0)) (fun s => 2 - (intOf s).toNat)
  case atStart => exact ⟨0, rfl, by omega, fun h => by omega, fun h => by omega⟩
  case round =>
    obtain ⟨j, rfl, hj, hx, hy⟩ := hrel
    by_cases j0 : j = 0
    · subst j0
      clear hx hy
      by_cases hx0 : x = 0
      · subst hx0
        go_wp2
        go_round
        case rel => exact ⟨1, rfl, by omega, fun _ => by simp, fun h => by omega⟩
        case measure => simp [intOf]
      · have hx1 : (x != 0) = true := by simpa using hx0
        have E : Hid (cmpO x y = x) := (by simp [cmpO, hx0] : cmpO x y = x)
        go_wp2
        go_ret
        exact ⟨ret_i E.out.symm, rfl⟩
    · by_cases j1 : j = 1
      · subst j1
        have hx0 := hx (by omega)
        subst hx0
        clear hx hy
        by_cases hy0 : y = 0
        · subst hy0
          go_wp2
          go_round
          case rel => exact ⟨2, rfl, by omega, fun _ => by simp, fun _ => by simp⟩
          case measure => simp [intOf]
        · have hy1 : (y != 0) = true := by simpa using hy0
          have E : Hid (cmpO 0 y = y) := (by simp [cmpO] : cmpO 0 y = y)
          go_wp2
          go_ret
          exact ⟨ret_i E.out.symm, rfl⟩
      · obtain rfl : j = 2 := by omega
        have hx0 := hx (by omega)
        have hy0 := hy (by omega)
        subst hx0 hy0
        go_wp2
        go_ret
        exact ⟨ret_i (by simp [cmpO]), rfl⟩

/-- An entry by value. -/
def Ep.val (x : Ep) : Value := .agg #[.string x.gr, .int .i64 x.ch, .slice x.a x.ln x.cp, .bool x.any, .int .i64 x.till]
set_option maxRecDepth 100000 in
set_option maxHeartbeats 600000 in
theorem order_any (g1 : ByteArray) (c1 : Int) (f1 : Option Addr) (l1 p1 : Nat) (a1 : Bool) (t1 : Int) (g2 : ByteArray) (c2 : Int) (f2 : Option Addr) (l2 p2 : Nat) (a2 : Bool) (t2 : Int) (w : World) :
    Calls Tryz.prog 165 #[.agg #[.string g1, .int .i64 c1, .slice f1 l1 p1, .bool a1, .int .i64 t1], .agg #[.string g2, .int .i64 c2, .slice f2 l2 p2, .bool a2, .int .i64 t2]] w fun e w' => e = .returned (.int .i64 (cmpK (g1, c1) (g2, c2))) ∧ Below w.heap.size w w' := by
  obtain ⟨W1, hW1⟩ : ∃ W1, W1 = (w.alloc (.cells #[.string g1, .int .i64 c1, .slice f1 l1 p1, .bool a1, .int .i64 t1] 89)).alloc (.cells #[.string g2, .int .i64 c2, .slice f2 l2 p2, .bool a2, .int .i64 t2] 89) := ⟨_, rfl⟩
  have b1 : Below w.heap.size w W1 := by rw [hW1]; exact ((Below.refl _ _).alloc (Nat.le_refl _) _).alloc (by simp) _
  have k0 : W1.cell? ⟨w.heap.size, 0, none⟩ = some (.string g1) := by rw [hW1]; simp
  have k1 : W1.cell? ⟨w.heap.size, 1, none⟩ = some (.int .i64 c1) := by rw [hW1]; simp
  have k2 : W1.cell? ⟨w.heap.size + 1, 0, none⟩ = some (.string g2) := by rw [hW1]; simp
  have k3 : W1.cell? ⟨w.heap.size + 1, 1, none⟩ = some (.int .i64 c2) := by rw [hW1]; simp
  have z1 : w.heap.size + 1 < W1.heap.size := by rw [hW1]; simp
  have z2 : w.heap.size < W1.heap.size := by omega
  have B1 : Hid _ := b1
  have HK : Hid (cmpK (g1, c1) (g2, c2) = cmpO (cmpS g1 g2) (cmpI c1 c2)) := rfl
  clear b1
  go_enter Tryz.func165, Tryz.ntmps165
  go_upto_region 1 with fail
  rw [← hW1]
  clear hW1
  obtain ⟨X, hX⟩ : ∃ X, X = cmpS g1 g2 := ⟨_, rfl⟩
  obtain ⟨Y, hY⟩ : ∃ Y, Y = cmpI c1 c2 := ⟨_, rfl⟩
  have HX : Hid (cmpS g1 g2 = X) := hX.symm
  have HY : Hid (cmpI c1 c2 = Y) := hY.symm
  clear hX hY
  go_region_held3 (fun w' => w'.cell? ⟨w.heap.size, 0, none⟩ = some (.string g1) ∧ w'.cell? ⟨w.heap.size, 1, none⟩ = some (.int .i64 c1) ∧ w'.cell? ⟨w.heap.size + 1, 0, none⟩ = some (.string g2) ∧ w'.cell? ⟨w.heap.size + 1, 1, none⟩ = some (.int .i64 c2))
    (first
      | go_keep
      | assumption)
    (first
      | (go_at_call 198; refine (cmps_any _ _ _).mono ?_; rintro e w' ⟨rfl, hw'⟩; subst w'; rw [HX.out])
      | (go_at_call 199; refine (cmpi_any _ _ _).mono ?_; rintro e w' ⟨rfl, hw'⟩; subst w'; rw [HY.out])
      | (go_at_call 197; refine (or_any _ X Y _ (by simp) (by simp) (by simp)).mono ?_; rintro e w' ⟨rfl, hw'⟩; subst w'))
  all_goals go_wp2
  all_goals go_ret
  all_goals exact ⟨ret_i (by rw [HK.out, HX.out, HY.out]), B1.out.trans ⟨rfl, rfl, rfl, by simp, fun k hk => Below.heap_alloc _ _ _ (by show k < W1.heap.size; omega)⟩⟩
end Go.Proofs.YtmajlldfiiokoaaGreatDoor

/- slices.BinarySearchFunc of entries that rise. -/
namespace Go.Proofs.YtmajlldfiiokoaaGreatDoor
open Go.ChangeShapes Go.WideShapes Go.ChangeAt Go.RowKit
set_option linter.unusedVariables false

/-- Is the key among them? -/
def hasK (L : List (ByteArray × Int)) (x : ByteArray × Int) : Bool := L.any (fun y => cmpK y x == 0)
theorem hasK_iff (L : List (ByteArray × Int)) (x : ByteArray × Int) : hasK L x = true ↔ x ∈ L := by
  unfold hasK
  rw [List.any_eq_true]
  constructor
  · rintro ⟨y, hy, h⟩
    have : y = x := (cmpK_zero y x).1 (by simpa using h)
    rw [← this]; exact hy
  · intro h; exact ⟨x, h, by simpa using (cmpK_zero x x).2 rfl⟩
theorem hasK_no {L : List (ByteArray × Int)} {x : ByteArray × Int} (h : x ∉ L) : hasK L x = false := by
  cases q : hasK L x with
  | false => rfl
  | true => exact absurd ((hasK_iff L x).1 q) h
theorem keys_getD (X : List Ep) (i : Nat) (h : i < X.length) : (X.map Ep.key).getD i (ByteArray.empty, 0) = (X.getD i ep0).key := by
  rw [List.getD_eq_getElem?_getD, List.getElem?_map, List.getD_eq_getElem?_getD, List.getElem?_eq_getElem h]; rfl

theorem cgE {w w' : World} {a : Addr} {v : Value} (h : w.cell? a = some v) (hb : Below w.heap.size w w') : w'.cell? a = some v := by
  rw [← h]
  exact World.cell?_of_block (hb.block a.block (World.block_lt_of_cell? _ _ h))
/-- The box of the entry that is looked for, and what lay below it. -/
structure EBox (w wr : World) (z : Nat) (g : ByteArray) (c : Int) (f : Option Addr) (l p : Nat) (a : Bool) (t : Int) : Prop where
  blk : wr.heap[z]? = some (.cells #[.string g, .int .i64 c, .slice f l p, .bool a, .int .i64 t] 89 (0, 0))
  bel : Below w.heap.size w wr
theorem lt_blk {w : World} {g : Nat} {o : Obj} (h : w.heap[g]? = some o) : g < w.heap.size := (Array.getElem?_eq_some_iff.1 h).1
theorem EBox.below {w wr w' : World} {z : Nat} {g : ByteArray} {c : Int} {f : Option Addr} {l p : Nat} {a : Bool} {t : Int} (h : EBox w wr z g c f l p a t) (hb : Below wr.heap.size wr w') : EBox w w' z g c f l p a t :=
  ⟨(hb.block _ (lt_blk h.blk)).trans h.blk, h.bel.trans (hb.mono h.bel.size)⟩
theorem EBox.cells {w wr : World} {z : Nat} {g : ByteArray} {c : Int} {f : Option Addr} {l p : Nat} {a : Bool} {t : Int} (h : EBox w wr z g c f l p a t) :
    wr.cell? ⟨z, 0, none⟩ = some (.string g) ∧ wr.cell? ⟨z, 1, none⟩ = some (.int .i64 c) ∧ wr.cell? ⟨z, 2, none⟩ = some (.slice f l p) ∧ wr.cell? ⟨z, 3, none⟩ = some (.bool a) ∧ wr.cell? ⟨z, 4, none⟩ = some (.int .i64 t) := by
  have := h.blk
  refine ⟨?_, ?_, ?_, ?_, ?_⟩ <;> simp [World.cell?, this]

set_option maxRecDepth 100000 in
set_option maxHeartbeats 4000000 in
theorem bsf_any (ra : Option Addr) (len rc : Nat) (X : List Ep) (g : ByteArray) (c : Int) (f : Option Addr) (l p : Nat) (a : Bool) (t : Int) (w : World) (h : EntIn w ra len X) (hK : Asc ltK (X.map Ep.key)) :
    Calls Tryz.prog 164 #[.slice ra len rc, .agg #[.string g, .int .i64 c, .slice f l p, .bool a, .int .i64 t], .func (.func 165) #[] #[]] w fun e w' => e = .returned (.tuple #[.int .i64 (lb ltK (X.map Ep.key) (g, c)), .bool (hasK (X.map Ep.key) (g, c))]) ∧ Below w.heap.size w w' := by
  have hlen := h.2.1
  have hXl : (X.map Ep.key).length = len := by simpa using h.1
  obtain ⟨k, hk⟩ : ∃ k, k = lb ltK (X.map Ep.key) (g, c) := ⟨_, rfl⟩
  have hkl : k ≤ len := by rw [hk, ← hXl]; exact lb_le _ _
  have h1 : ∀ t, t < k → cmpK (X.getD t ep0).key (g, c) < 0 := fun t ht => by
    rw [cmpK_neg, ← keys_getD X t (by have := h.1; omega)]
    exact lb_less _ _ _ t (by rw [← hk]; exact ht)
  have h2 : ∀ t, k ≤ t → t < len → ¬ cmpK (X.getD t ep0).key (g, c) < 0 := fun t ht hl => by
    rw [cmpK_neg, ← keys_getD X t (by have := h.1; omega), lb_not _ linK _ hK _ t (by rw [← hk]; exact ht) (by rw [hXl]; exact hl)]
    simp
  have h3 := lb_hit (ByteArray.empty, (0 : Int)) linK _ hK (g, c)
  rw [← hk, hXl] at h3
  have HX : Hid (EntIn w ra len X) := h
  have H1 : Hid _ := h1
  have H2 : Hid _ := h2
  have H3 : Hid (k < len → (cmpK (X.getD k ep0).key (g, c) = 0 ↔ (g, c) ∈ X.map Ep.key)) := fun hkn => by
    rw [cmpK_zero, ← keys_getD X k (by have := h.1; omega)]
    exact ⟨fun e => h3.1 ⟨hkn, e⟩, fun e => (h3.2 e).2⟩
  have H4 : Hid (¬ k < len → (g, c) ∉ X.map Ep.key) := fun hkn e => hkn (h3.2 e).1
  have HKE : Hid (lb ltK (X.map Ep.key) (g, c) = k) := hk.symm
  have hbox : EBox w (w.alloc (.cells #[.string g, .int .i64 c, .slice f l p, .bool a, .int .i64 t] 89)) w.heap.size g c f l p a t := ⟨heap_alloc_new w _, (Below.refl _ _).alloc (Nat.le_refl _) _⟩
  have HB0 : Hid _ := hbox
  clear h h1 h2 h3 hk hXl hbox
  go_enter Tryz.func164, Tryz.ntmps164
  go_wp2
  go_loopg [9, 10] len (fun kx x y wr => ∃ lo hi : Nat, x = .int .i64 lo ∧ y = .int .i64 hi ∧ lo ≤ k ∧ k ≤ hi ∧ hi ≤ len ∧ hi - lo ≤ kx ∧ Hid (EBox w wr w.heap.size g c f l p a t))
  case atStart => exact ⟨0, len, rfl, rfl, Nat.zero_le _, hkl, Nat.le_refl _, by omega, HB0⟩
  case round =>
    obtain ⟨lo, hi, rfl, rfl, hlo, hhi, hhl, hkx, HB⟩ := hrel
    clear HB0
    obtain ⟨y0, y1, y2, y3, y4⟩ := HB.out.cells
    have yl := lt_blk HB.out.blk
    by_cases hlt : lo < hi
    · obtain ⟨m, hm⟩ : ∃ m, m = (lo + hi) / 2 := ⟨_, rfl⟩
      have hm1 : lo ≤ m := by omega
      have hm2 : m < hi := by omega
      have hml : m < len := by omega
      obtain ⟨b, o, ha, hb, _, _, c0, c1, c2, c3, c4⟩ := (HX.out.below HB.out.bel).at hml
      subst ha
      have hmi : ((lo : Int) + (hi : Int)) / 2 = (m : Int) := by omega
      have hm0 : (0 : Int) ≤ (m : Int) := Int.natCast_nonneg _
      have hmli : (m : Int) < (len : Int) := by omega
      clear hm
      obtain ⟨x, hx⟩ : ∃ x, x = X.getD m ep0 := ⟨_, rfl⟩
      rw [← hx] at c0 c1 c2 c3 c4
      by_cases hmk : m < k
      · have hq := H1.out m hmk
        rw [← hx] at hq
        have HQ : Hid _ := hq
        clear hx hq
        obtain ⟨g', c', f', l', p', a', t', fs'⟩ := x
        simp only [Ep.key] at c0 c1 c2 c3 c4 HQ
        obtain ⟨kv, hkv⟩ : ∃ kv, kv = cmpK (g', c') (g, c) := ⟨_, rfl⟩
        have hkn : kv < 0 := by rw [hkv]; exact HQ.out
        have HKV : Hid (cmpK (g', c') (g, c) = kv) := hkv.symm
        clear hkv
        go_upto_region 5 with fail
        go_cut [31] (fun v wx => v = .bool true ∧ Hid (EBox w wx w.heap.size g c f l p a t))
        case first =>
          go_region_held3 (fun w' => w'.cell? ⟨w.heap.size, 0, none⟩ = some (.string g) ∧ w'.cell? ⟨w.heap.size, 1, none⟩ = some (.int .i64 c) ∧ w'.cell? ⟨w.heap.size, 2, none⟩ = some (.slice f l p) ∧ w'.cell? ⟨w.heap.size, 3, none⟩ = some (.bool a) ∧ w'.cell? ⟨w.heap.size, 4, none⟩ = some (.int .i64 t) ∧ w'.cell? ⟨b, o + m * 5, none⟩ = some (.string g') ∧ w'.cell? ⟨b, o + m * 5 + 1, none⟩ = some (.int .i64 c') ∧ w'.cell? ⟨b, o + m * 5 + 2, none⟩ = some (.slice f' l' p') ∧ w'.cell? ⟨b, o + m * 5 + 3, none⟩ = some (.bool a') ∧ w'.cell? ⟨b, o + m * 5 + 4, none⟩ = some (.int .i64 t'))
          (first
            | go_keep
            | assumption)
          (first
            | (go_at_call 165; refine (order_any _ _ _ _ _ _ _ _ _ _ _ _ _ _ _).mono ?_; rintro e w2 ⟨rfl, hb2⟩
               have hb3 : Below wr.heap.size wr w2 := ⟨hb2.os, hb2.tape, hb2.output, hb2.size, hb2.block⟩
               have q0 := cgE y0 hb3
               have q1 := cgE y1 hb3
               have q2 := cgE y2 hb3
               have q3 := cgE y3 hb3
               have q4 := cgE y4 hb3
               have r0 := cgE c0 hb3
               have r1 := cgE c1 hb3
               have r2 := cgE c2 hb3
               have r3 := cgE c3 hb3
               have r4 := cgE c4 hb3
               have H5 : Hid (EBox w w2 w.heap.size g c f l p a t) := HB.out.below hb3
               clear hb2 hb3))
          all_goals (try go_wp2_with fail)
          all_goals go_meet
          all_goals exact ⟨by rw [HKV.out]; simp [hkn], H5⟩
        case rest =>
          obtain ⟨rfl, H6⟩ := hcut
          go_wp2
          go_roundg (hi - (m + 1))
          case measure => omega
          case rel => exact ⟨m + 1, hi, by go_num, rfl, by omega, by omega, by omega, by omega, H6⟩
      · have hq := H2.out m (by omega) hml
        rw [← hx] at hq
        have HQ : Hid _ := hq
        clear hx hq
        obtain ⟨g', c', f', l', p', a', t', fs'⟩ := x
        simp only [Ep.key] at c0 c1 c2 c3 c4 HQ
        obtain ⟨kv, hkv⟩ : ∃ kv, kv = cmpK (g', c') (g, c) := ⟨_, rfl⟩
        have hkn : ¬ kv < 0 := by rw [hkv]; have := HQ.out; omega
        have HKV : Hid (cmpK (g', c') (g, c) = kv) := hkv.symm
        clear hkv
        go_upto_region 5 with fail
        go_cut [31] (fun v wx => v = .bool false ∧ Hid (EBox w wx w.heap.size g c f l p a t))
        case first =>
          go_region_held3 (fun w' => w'.cell? ⟨w.heap.size, 0, none⟩ = some (.string g) ∧ w'.cell? ⟨w.heap.size, 1, none⟩ = some (.int .i64 c) ∧ w'.cell? ⟨w.heap.size, 2, none⟩ = some (.slice f l p) ∧ w'.cell? ⟨w.heap.size, 3, none⟩ = some (.bool a) ∧ w'.cell? ⟨w.heap.size, 4, none⟩ = some (.int .i64 t) ∧ w'.cell? ⟨b, o + m * 5, none⟩ = some (.string g') ∧ w'.cell? ⟨b, o + m * 5 + 1, none⟩ = some (.int .i64 c') ∧ w'.cell? ⟨b, o + m * 5 + 2, none⟩ = some (.slice f' l' p') ∧ w'.cell? ⟨b, o + m * 5 + 3, none⟩ = some (.bool a') ∧ w'.cell? ⟨b, o + m * 5 + 4, none⟩ = some (.int .i64 t'))
          (first
            | go_keep
            | assumption)
          (first
            | (go_at_call 165; refine (order_any _ _ _ _ _ _ _ _ _ _ _ _ _ _ _).mono ?_; rintro e w2 ⟨rfl, hb2⟩
               have hb3 : Below wr.heap.size wr w2 := ⟨hb2.os, hb2.tape, hb2.output, hb2.size, hb2.block⟩
               have q0 := cgE y0 hb3
               have q1 := cgE y1 hb3
               have q2 := cgE y2 hb3
               have q3 := cgE y3 hb3
               have q4 := cgE y4 hb3
               have r0 := cgE c0 hb3
               have r1 := cgE c1 hb3
               have r2 := cgE c2 hb3
               have r3 := cgE c3 hb3
               have r4 := cgE c4 hb3
               have H5 : Hid (EBox w w2 w.heap.size g c f l p a t) := HB.out.below hb3
               clear hb2 hb3))
          all_goals (try go_wp2_with fail)
          all_goals go_meet
          all_goals exact ⟨by rw [HKV.out]; simp [hkn], H5⟩
        case rest =>
          obtain ⟨rfl, H6⟩ := hcut
          go_wp2
          go_roundg (m - lo)
          case measure => omega
          case rel => exact ⟨lo, m, rfl, rfl, by omega, by omega, by omega, by omega, H6⟩
    · obtain rfl : lo = k := by omega
      obtain rfl : hi = lo := by omega
      by_cases hkn : hi < len
      · obtain ⟨b, o, ha, hb, _, _, c0, c1, c2, c3, c4⟩ := (HX.out.below HB.out.bel).at hkn
        subst ha
        have hm0 : (0 : Int) ≤ (hi : Int) := Int.natCast_nonneg _
        have hmli : (hi : Int) < (len : Int) := by omega
        obtain ⟨x, hx⟩ : ∃ x, x = X.getD hi ep0 := ⟨_, rfl⟩
        have h3 := H3.out hkn
        rw [← hx] at c0 c1 c2 c3 c4 h3
        obtain ⟨g', c', f', l', p', a', t', fs'⟩ := x
        simp only [Ep.key] at c0 c1 c2 c3 c4 h3
        obtain ⟨kv, hkv⟩ : ∃ kv, kv = cmpK (g', c') (g, c) := ⟨_, rfl⟩
        rw [← hkv] at h3
        have HH : Hid (hasK (X.map Ep.key) (g, c) = (kv == 0)) := by
          show _ = _
          by_cases e : kv = 0
          · rw [(hasK_iff _ _).2 (h3.1 e), e]; rfl
          · rw [hasK_no (fun q => e (h3.2 q))]; symm; simpa using e
        have HKV : Hid (cmpK (g', c') (g, c) = kv) := hkv.symm
        clear hkv h3 hx
        go_upto_region 8 with fail
        go_cut [6, 7] (fun v v2 wx => v = .int .i64 hi ∧ v2 = .bool (kv == 0) ∧ Hid (EBox w wx w.heap.size g c f l p a t))
        case first =>
          go_region_held3 (fun w' => w'.cell? ⟨w.heap.size, 0, none⟩ = some (.string g) ∧ w'.cell? ⟨w.heap.size, 1, none⟩ = some (.int .i64 c) ∧ w'.cell? ⟨w.heap.size, 2, none⟩ = some (.slice f l p) ∧ w'.cell? ⟨w.heap.size, 3, none⟩ = some (.bool a) ∧ w'.cell? ⟨w.heap.size, 4, none⟩ = some (.int .i64 t) ∧ w'.cell? ⟨b, o + hi * 5, none⟩ = some (.string g') ∧ w'.cell? ⟨b, o + hi * 5 + 1, none⟩ = some (.int .i64 c') ∧ w'.cell? ⟨b, o + hi * 5 + 2, none⟩ = some (.slice f' l' p') ∧ w'.cell? ⟨b, o + hi * 5 + 3, none⟩ = some (.bool a') ∧ w'.cell? ⟨b, o + hi * 5 + 4, none⟩ = some (.int .i64 t'))
          (first
            | go_keep
            | assumption)
          (first
            | (go_at_call 165; refine (order_any _ _ _ _ _ _ _ _ _ _ _ _ _ _ _).mono ?_; rintro e w2 ⟨rfl, hb2⟩
               have hb3 : Below wr.heap.size wr w2 := ⟨hb2.os, hb2.tape, hb2.output, hb2.size, hb2.block⟩
               have q0 := cgE y0 hb3
               have q1 := cgE y1 hb3
               have q2 := cgE y2 hb3
               have q3 := cgE y3 hb3
               have q4 := cgE y4 hb3
               have r0 := cgE c0 hb3
               have r1 := cgE c1 hb3
               have r2 := cgE c2 hb3
               have r3 := cgE c3 hb3
               have r4 := cgE c4 hb3
               have H5 : Hid (EBox w w2 w.heap.size g c f l p a t) := HB.out.below hb3
               clear hb2 hb3))
          all_goals (try go_wp2_with fail)
          all_goals go_meet
          all_goals exact ⟨by simp, by rw [HKV.out], H5⟩
        case rest =>
          obtain ⟨rfl, rfl, H6⟩ := hcut
          go_wp2
          go_ret2
          exact ⟨by rw [HKE.out, HH.out]; simp, H6.out.bel⟩
      · have hmli : ¬ (hi : Int) < (len : Int) := by omega
        have hmd : decide ((hi : Int) < (len : Int)) = false := by simpa using hmli
        have HH : Hid (hasK (X.map Ep.key) (g, c) = false) := hasK_no (H4.out hkn)
        go_wp2_with fail
        go_quiet (fail)
        go_wp2
        go_ret2
        exact ⟨by rw [HKE.out, HH.out]; simp, HB.out.bel.trans ⟨rfl, rfl, rfl, Nat.le_refl _, fun _ _ => rfl⟩⟩
end Go.Proofs.YtmajlldfiiokoaaGreatDoor

/- A slice of elements of five cells that the call itself made, appended to out of whatever source (a slice, a string): where what comes of it lies: in the row that was there, or in a new block. No program in sight. -/
namespace Go.Proofs.YtmajlldfiiokoaaGreatDoor
open Go.RowKit

section
variable {P : Program} (w : World)

/-- What an append to an own row leaves. -/
structure Appended5 (base : Nat) (e : TypeId) (w w' : World) (v v' : Value) (n : Nat) (xs : List Value) : Prop where
  row : w'.ownsRow base e 5 v' n xs
  grown : w.grownBy w' v.ownBlock
  new : ∀ k, v'.ownBlock = some k → v.ownBlock = some k ∨ w.heap.size ≤ k
  shape : ∃ a c, v' = .slice a n c

theorem own_append5 (base : Nat) (t tx ty e : TypeId) (i : TypeInfo) (z : Value) (bytes : Nat) (ht : P.underlying t = some (.slice e)) (hi : P.info? e = some i) (hz : i.zero = some z)
    (hsize : i.size = 5) (hby : i.bytes = bytes) (hzs : z.cells.size = 5)
    (v : Value) (n : Nat) (xs : List Value) (hown : w.ownsRow base e 5 v n xs) (x : Value) (m : Nat) (news : List Value) (hs : Src P 5 tx x m news w)
    (h63 : n + m ≤ maxLen) (hbytes : (n + m) * bytes ≤ 140737488355328) (hbase : base ≤ w.heap.size) :
    ∃ v' w', (Builtin.append_ #[t, tx] ty #[v, x]).run P w = .ok v' w' ∧ Appended5 base e w w' v v' (n + m) (xs ++ news) := by
  rw [← hsize] at hs
  subst hby
  have hsmall : n + m ≤ 9223372036854775807 := by simp only [maxLen] at h63; omega
  have hnl : news.length = m * 5 := by have := hs.newsLen; rw [hsize] at this; exact this
  have hxl : xs.length = n * 5 := hown.1
  have hlen : (xs ++ news).length = (n + m) * 5 := by rw [List.length_append, hxl, hnl]; omega
  have grown : ∀ (old : Nat), old < n + m →
      (w.drew.alloc (.cells ((xs ++ news).toArray ++ Builtin.zeroCells z.cells (grownCap w (n + m) old e - (n + m))) e)).ownsRow base e 5
        (.slice (some ⟨w.heap.size, 0, none⟩) (n + m) (grownCap w (n + m) old e)) (n + m) (xs ++ news) ∧
      ∀ row, w.grownBy (w.drew.alloc (.cells ((xs ++ news).toArray ++ Builtin.zeroCells z.cells (grownCap w (n + m) old e - (n + m))) e)) row := by
    intro old ho
    have hge := grownCap_ge w (n + m) old e
    have hcm : grownCap w (n + m) old e ≤ maxLen := grownCap_le_maxLen w (n + m) old e h63
    refine ⟨⟨hlen, .inr ⟨w.heap.size, _, _, rfl, hbase, heap_alloc_new w.drew _, hge, hcm, ?_, ?_⟩⟩, fun row => ⟨rfl, rfl, rfl, by simp, fun k hk _ => Below.heap_alloc w.drew _ k hk⟩⟩
    · simp only [Array.size_append, List.size_toArray, size_zeroCells, hzs, hlen]; omega
    · rw [Array.toList_append, List.toList_toArray, ← hlen]; exact List.take_left
  rcases hown.2 with ⟨rfl, rfl⟩ | ⟨g, cap, cur, rfl, hbg, hg, hnc, hcm, hcs, htake⟩
  · have hx : xs = [] := List.eq_nil_of_length_eq_zero (by omega)
    subst hx
    by_cases hm : m = 0
    · subst hm
      have hn : news = [] := List.eq_nil_of_length_eq_zero (by omega)
      subst hn
      exact ⟨.slice none 0 0, w, run_append_nothing w t tx ty e i ht hi none 0 0 (Nat.le_refl _) x hs, World.ownsRow_nil w base e 5, ⟨rfl, rfl, rfl, Nat.le_refl _, fun _ _ _ => rfl⟩, fun k hk => .inl hk, ⟨none, 0, rfl⟩⟩
    · have hr := run_append_grow_src (P := P) w t tx ty e i z ht hi hz none 0 0 [] (run_firstCells_none _ _ _ _ _) x m news hs (by omega) (by omega) (growslice_fits (by omega) hbytes)
      have hgr := grown 0 (by omega)
      exact ⟨_, _, hr, hgr.1, hgr.2 _, fun k hk => .inr (by simp [Value.ownBlock] at hk; omega), ⟨_, _, rfl⟩⟩
  · by_cases hroom : n + m ≤ cap
    · have hfit : n * i.size + news.length ≤ cur.size := by rw [hnl, hcs, hsize]; omega
      have hr := room_src (P := P) w t tx ty e i ht hi g n cap cur hg x m news hs hroom hfit
      refine ⟨_, _, hr, ⟨hlen, .inr ⟨g, cap, _, rfl, hbg, setRow_heap w g cur _ e _ hg, hroom, hcm, ?_, ?_⟩⟩, ⟨rfl, rfl, rfl, by simp, fun k _ hk => setRow_other w g k _ (fun e => hk (by simp [Value.ownBlock, e]))⟩, fun k hk => .inl hk, ⟨_, _, rfl⟩⟩
      · simp only [List.size_toArray, List.length_append, List.length_take, List.length_drop, Array.length_toList]
        omega
      · rw [hsize, htake, ← hlen]
        exact List.take_left
    · have holds : ∀ j u, xs[j]? = some u → w.cell? ((⟨g, 0, none⟩ : Addr).add j) = some u := hown.cells (g := g) rfl
      have hf := run_firstCells_some (P := P) w.drew i.size n ⟨g, 0, none⟩ n cap xs (by rw [hsize]; omega) (by simpa using holds)
      have hr := run_append_grow_src (P := P) w t tx ty e i z ht hi hz (some ⟨g, 0, none⟩) n cap xs hf x m news hs (by omega) (by omega) (growslice_fits (by omega) hbytes)
      have hgr := grown cap (by omega)
      exact ⟨_, _, hr, hgr.1, hgr.2 _, fun k hk => .inr (by simp [Value.ownBlock] at hk; omega), ⟨_, _, rfl⟩⟩

theorem wpList_own_append5 {ops : Array Oper} {rest : List Oper} {o : Oper} {a : Act} {Q : Exit → Act → World → Prop} (hgd : o.guard = none) (s x : Operand) (t tx : TypeId)
    (ho : o.op = .call { callee := .builtin .append, args := #[s, x], argTypes := #[t, tx] })
    (base : Nat) (e : TypeId) (i : TypeInfo) (z : Value) (bytes : Nat) (ht : P.underlying t = some (.slice e)) (hi : P.info? e = some i) (hz : i.zero = some z)
    (hsize : i.size = 5) (hby : i.bytes = bytes) (hzs : z.cells.size = 5)
    (v : Value) (n : Nat) (xs : List Value) (hv : a.eval s = v) (hown : w.ownsRow base e 5 v n xs) (xv : Value) (m : Nat) (news : List Value) (hx : a.eval x = xv) (hs : Src P 5 tx xv m news w)
    (h63 : n + m ≤ maxLen) (hbytes : (n + m) * bytes ≤ 140737488355328) (hbase : base ≤ w.heap.size)
    (hK : ∀ v' w', Appended5 base e w w' v v' (n + m) (xs ++ news) → wpList P ops Q rest (a.put o.dst v') w') : wpList P ops Q (o :: rest) a w := by
  refine wpList_plain hgd fun K hK' => ?_
  obtain ⟨v', w', hrun, r'⟩ := own_append5 (P := P) w base t tx o.type e i z bytes ht hi hz hsize hby hzs v n xs hown xv m news hs h63 hbytes hbase
  unfold Oper.wp
  simp [execOp, ho, resolve, invoke, builtin, hv, hx, hrun, Result.andThen]
  exact hK' _ _ (hK v' w' r')

end
end Go.Proofs.YtmajlldfiiokoaaGreatDoor

/- slices.Insert of one element into a row of one's own (entries): at the end, in the middle with room, in the middle without. -/
namespace Go.Proofs.YtmajlldfiiokoaaGreatDoor
open Go.ChangeShapes Go.WideShapes Go.ChangeAt Go.RowKit
set_option linter.unusedVariables false

theorem Tryz.infoEnt : (Tryz.prog.info? 89).map (fun i => (i.zero, i.size, i.bytes)) = some (some (.agg #[.string ⟨#[]⟩, .int .i64 0, .slice none 0 0, .bool false, .int .i64 0]), 5, 64) := by kernel_rfl
theorem infoEnt_parts : ∃ i, Tryz.prog.info? 89 = some i ∧ i.zero = some (.agg #[.string ⟨#[]⟩, .int .i64 0, .slice none 0 0, .bool false, .int .i64 0]) ∧ i.size = 5 ∧ i.bytes = 64 := by
  have h := Tryz.infoEnt
  cases hh : Tryz.prog.info? 89 with
  | none => rw [hh] at h; simp at h
  | some i => rw [hh] at h; simp at h; exact ⟨i, rfl, h.1, h.2.1, h.2.2⟩
theorem sizeEnt (w : World) : (sizeOf 89).run Tryz.prog w = .ok 5 w := by kernel_rfl
theorem srcEnt (w : World) (q : List Value) (vb : Nat) (hq : w.heap[vb]? = some (.cells q.toArray 89 (0, 0))) (hql : q.length = 5) (h1 : ∀ v ∈ q, v.oneCell' = true) : Src Tryz.prog 5 87 (.slice (some ⟨vb, 0, none⟩) 1 1) 1 q w :=
  Src.ofSlice _ Tryz.underlying87 _ 1 1 _ (by omega) (fun j u hu => by
    have := World.news_of_block (cs := q.toArray) (t := 89) (fr := (0, 0)) hq j u (by simpa using hu)
    exact this) h1

set_option maxRecDepth 100000 in
set_option maxHeartbeats 2000000 in
/-- At the end. -/
theorem insEnt_end (B : Nat) (v : Value) (n : Nat) (xs q : List Value) (vb : Nat) (w : World) (hown : w.ownsRow B 89 5 v n xs) (hn : n ≤ 100000) (hq : w.heap[vb]? = some (.cells q.toArray 89 (0, 0))) (hql : q.length = 5) (h1 : ∀ v ∈ q, v.oneCell' = true) (hB : B ≤ w.heap.size) :
    Calls Tryz.prog 167 #[v, .int .i64 n, .slice (some ⟨vb, 0, none⟩) 1 1] w fun e w' => ∃ v', e = .returned v' ∧ AppendK 5 B 89 w w' v v' (n + 1) (xs ++ q) := by
  obtain ⟨i0, hi, hz0, hz1, hz2⟩ := infoEnt_parts
  have HO : Hid _ := hown
  have hs := srcEnt w q vb hq hql h1
  have HS : Hid _ := hs
  have hsh : ∃ a c, v = .slice a n c ∧ n ≤ c := by
    rcases hown.2 with ⟨rfl, rfl⟩ | ⟨g, cap, cur, rfl, _, _, hnc, _⟩
    · exact ⟨none, 0, rfl, Nat.le_refl _⟩
    · exact ⟨_, cap, rfl, hnc⟩
  obtain ⟨a, c, rfl, hnc⟩ := hsh
  clear hown hs
  go_enter Tryz.func167, Tryz.ntmps167
  cases a with
  | none =>
    go_wp2_with (at_builtin; refine wpList_own_append5 _ rfl _ _ 87 87 rfl B 89 i0 _ 64 Tryz.underlying87 hi hz0 hz1 hz2 rfl _ n xs rfl HO.out _ 1 q rfl HS.out ?c3 ?c4 hB ?_)
    case c3 => unfold maxLen; omega
    case c4 => omega
    intro v' w2 ha
    go_wp2
    go_ret
    exact ⟨v', rfl, ha.row, ha.grown, ha.new, ha.shape⟩
  | some a =>
    obtain ⟨g, o, sp⟩ := a
    by_cases hcn : c = n
    · subst hcn
      go_wp2_with (at_builtin; refine wpList_own_append5 _ rfl _ _ 87 87 rfl B 89 i0 _ 64 Tryz.underlying87 hi hz0 hz1 hz2 rfl _ c xs rfl HO.out _ 1 q rfl HS.out ?c3 ?c4 hB ?_)
      case c3 => unfold maxLen; omega
      case c4 => omega
      intro v' w2 ha
      go_wp2
      go_ret
      exact ⟨v', rfl, ha.row, ha.grown, ha.new, ha.shape⟩
    · go_wp2_with (at_builtin; refine wpList_own_append5 _ rfl _ _ 87 87 rfl B 89 i0 _ 64 Tryz.underlying87 hi hz0 hz1 hz2 rfl _ n xs rfl HO.out _ 1 q rfl HS.out ?c3 ?c4 hB ?_)
      case c3 => unfold maxLen; omega
      case c4 => omega
      intro v' w2 ha
      go_wp2
      go_ret
      exact ⟨v', rfl, ha.row, ha.grown, ha.new, ha.shape⟩

set_option maxRecDepth 100000 in
set_option maxHeartbeats 4000000 in
/-- In the middle, no room: a new row. -/
theorem insEnt_grow (B : Nat) (n c i g : Nat) (cur : Array Value) (xs q : List Value) (vb : Nat) (w : World) (hg : w.heap[g]? = some (.cells cur 89 (0, 0))) (hcs : cur.size = c * 5) (htk : cur.toList.take (n * 5) = xs) (hi' : i < n) (hnc : n ≤ c) (hc : c < n + 1) (hn : n ≤ 100000) (hx1 : ∀ v ∈ xs, v.oneCell' = true)
    (hq : w.heap[vb]? = some (.cells q.toArray 89 (0, 0))) (hql : q.length = 5) (h1 : ∀ v ∈ q, v.oneCell' = true) (hB : B ≤ w.heap.size) :
    Calls Tryz.prog 167 #[.slice (some ⟨g, 0, none⟩) n c, .int .i64 i, .slice (some ⟨vb, 0, none⟩) 1 1] w fun e w' => ∃ v', e = .returned v' ∧ AppendK 5 B 89 w w' (.slice (some ⟨g, 0, none⟩) n c) v' (n + 1) (xs.take (i * 5) ++ q ++ xs.drop (i * 5)) := by
  obtain ⟨i0, hi, hz0, hz1, hz2⟩ := infoEnt_parts
  have hcn : c = n := by omega
  subst hcn
  have hxs : xs = cur.toList := by rw [← htk]; exact List.take_of_length_le (by simp; omega)
  have hxl : xs.length = c * 5 := by rw [hxs]; simpa using hcs
  have hsz : (Tryz.prog.info? 89).map (·.size) = some 5 := by rw [hi]; simp [hz1]
  have hcell : ∀ j u, xs[j]? = some u → w.cell? ⟨g, j, none⟩ = some u := fun j u hj => by
    rw [hxs] at hj
    simp [World.cell?, hg]
    simpa using hj
  have hold : (Builtin.firstCells i0.size i (.slice (some ⟨g, 0, none⟩) i c)).run Tryz.prog w.drew = .ok (xs.take (i * 5)).toArray w.drew := by
    rw [hz1]
    exact run_firstCells_some w.drew 5 i ⟨g, 0, none⟩ i c (xs.take (i * 5)) (by rw [List.length_take, hxl]; omega) (fun j u hj => by
      rw [Addr.add_lit, Nat.zero_add]
      rw [List.getElem?_take] at hj
      split at hj
      · exact hcell j u hj
      · cases hj)
  obtain ⟨m, hm⟩ : ∃ m, m = c + 1 - i := ⟨_, rfl⟩
  have hzg := fun ty => zeros_grow (P := Tryz.prog) w 87 3 ty 89 i0 _ Tryz.underlying87 Tryz.underlying3 hi hz0 (by omega) (some ⟨g, 0, none⟩) i c m _ hold (by omega) (by omega) (by omega) (by omega)
  have e1 : i + m = c + 1 := by omega
  rw [e1] at hzg
  obtain ⟨C, hC⟩ : ∃ C, C = grownCap w (c + 1) c 89 := ⟨_, rfl⟩
  have hC1 : c + 1 ≤ C := by rw [hC]; exact grownCap_ge _ _ _ _
  have hC2 : C ≤ maxLen := by rw [hC]; exact grownCap_le_maxLen _ _ _ _ (by unfold maxLen; omega)
  rw [← hC] at hzg
  obtain ⟨Z, hZ⟩ : ∃ Z : List Value, Z = (Builtin.zeroCells (Value.cells (.agg #[.string ⟨#[]⟩, .int .i64 0, .slice none 0 0, .bool false, .int .i64 0])) m ++ Builtin.zeroCells (Value.cells (.agg #[.string ⟨#[]⟩, .int .i64 0, .slice none 0 0, .bool false, .int .i64 0])) (C - (c + 1))).toList := ⟨_, rfl⟩
  have hZl : Z.length = (C - i) * 5 := by
    rw [hZ]; simp [size_zeroCells, Value.cells]; omega
  have hrow : (((xs.take (i * 5)).toArray ++ Builtin.zeroCells (Value.cells (.agg #[.string ⟨#[]⟩, .int .i64 0, .slice none 0 0, .bool false, .int .i64 0])) m) ++ Builtin.zeroCells (Value.cells (.agg #[.string ⟨#[]⟩, .int .i64 0, .slice none 0 0, .bool false, .int .i64 0])) (C - (c + 1))) = (xs.take (i * 5) ++ Z).toArray := by
    rw [hZ]; apply Array.ext'; simp
  obtain ⟨W1, hW1⟩ : ∃ W1, W1 = w.drew.alloc (.cells (xs.take (i * 5) ++ Z).toArray 89) := ⟨_, rfl⟩
  have hzg' : ∀ ty, (Builtin.append_ #[87, 3] ty #[.slice (some ⟨g, 0, none⟩) i c, .int .i64 m]).run Tryz.prog w = .ok (.slice (some ⟨w.heap.size, 0, none⟩) (c + 1) C) W1 := fun ty => by
    rw [hW1, ← hrow]; exact hzg ty
  have hglt : g < w.heap.size := (Array.getElem?_eq_some_iff.1 hg).1
  have hvlt : vb < w.heap.size := (Array.getElem?_eq_some_iff.1 hq).1
  have hb1 : W1.heap[w.heap.size]? = some (.cells (xs.take (i * 5) ++ Z).toArray 89 (0, 0)) := by rw [hW1]; exact heap_alloc_new w.drew _
  have hq1 : W1.heap[vb]? = some (.cells q.toArray 89 (0, 0)) := by rw [hW1]; exact (Below.heap_alloc w.drew _ vb hvlt).trans hq
  have hg1 : W1.heap[g]? = some (.cells cur 89 (0, 0)) := by rw [hW1]; exact (Below.heap_alloc w.drew _ g hglt).trans hg
  have hql1 : ∀ j u, q[j]? = some u → W1.cell? ((⟨vb, 0, none⟩ : Addr).add j) = some u := fun j u hj => by
    rw [Addr.add_lit, Nat.zero_add]; simp [World.cell?, hq1]; simpa using hj
  have hik : i * 5 ≤ xs.length := by rw [hxl]; omega
  have htl : (xs.take (i * 5)).length = i * 5 := by rw [List.length_take]; omega
  -- the first copy: the new one
  have hcp1 : ∀ ty dc oo, oo = i * 5 → (Builtin.copy_ #[87, 87] ty #[.slice (some ⟨w.heap.size, oo, none⟩) (c + 1 - i) dc, .slice (some ⟨vb, 0, none⟩) 1 1]).run Tryz.prog W1 = .ok (goInt 1) (W1.setRow w.heap.size (xs.take (i * 5) ++ q ++ Z.drop 5).toArray) := fun ty dc oo hoo => by
    subst hoo
    have hmin : Nat.min 1 (c + 1 - i) = 1 := by simp only [Nat.min_def]; split <;> omega
    have := copy_rowK (P := Tryz.prog) 5 W1 87 87 ty 89 w.heap.size (i * 5) (c + 1 - i) dc ⟨vb, 0, none⟩ 1 1 _ 89 q Tryz.underlying87 hsz hb1 (by rw [hmin, hql]) hql1 (by rw [List.size_toArray, List.length_append, htl, hZl, hql]; have : 1 * 5 ≤ (C - i) * 5 := Nat.mul_le_mul_right _ (by omega); omega) h1
    rw [hmin] at this
    rw [this]
    have es := splice_in xs q Z (i * 5) hik (by rw [hql, hZl]; omega)
    dsimp only
    rw [es, hql]
    rfl
  obtain ⟨W2, hW2⟩ : ∃ W2, W2 = W1.setRow w.heap.size (xs.take (i * 5) ++ q ++ Z.drop 5).toArray := ⟨_, rfl⟩
  rw [← hW2] at hcp1
  have hb2 : W2.drew.heap[w.heap.size]? = some (.cells (xs.take (i * 5) ++ q ++ Z.drop 5).toArray 89 (0, 0)) := by rw [hW2]; exact setRow_heap W1 _ _ _ _ _ hb1
  have hg2 : W2.drew.heap[g]? = some (.cells cur 89 (0, 0)) := by rw [hW2]; exact (setRow_other W1 _ g _ (by omega)).trans hg1
  -- the second copy: what stood behind
  have hcp2 : ∀ ty dc sc oo pp, oo = (i + 1) * 5 → pp = i * 5 → (Builtin.copy_ #[87, 87] ty #[.slice (some ⟨w.heap.size, oo, none⟩) (c - i) dc, .slice (some ⟨g, pp, none⟩) (c - i) sc]).run Tryz.prog W2.drew = .ok (goInt ((c - i : Nat) : Int)) (W2.drew.setRow w.heap.size (xs.take (i * 5) ++ q ++ xs.drop (i * 5) ++ Z.drop ((m) * 5)).toArray) := fun ty dc sc oo pp hoo hpp => by
    subst hoo hpp
    have hmin : Nat.min (c - i) (c - i) = c - i := Nat.min_self _
    have hdl : (xs.drop (i * 5)).length = (c - i) * 5 := by rw [List.length_drop, hxl]; omega
    have hf2 : (i + 1) * 5 + (xs.drop (i * 5)).length ≤ (xs.take (i * 5) ++ q ++ Z.drop 5).toArray.size := by
      rw [List.size_toArray, List.length_append, List.length_append, htl, hql, hdl, List.length_drop, hZl]
      have e7 : (c - i) * 5 + 1 * 5 ≤ (C - i) * 5 := by rw [← Nat.add_mul]; exact Nat.mul_le_mul_right _ (by omega)
      have e9 : (i + 1) * 5 = i * 5 + 1 * 5 := Nat.add_mul ..
      omega
    have := copy_rowK (P := Tryz.prog) 5 W2.drew 87 87 ty 89 w.heap.size ((i + 1) * 5) (c - i) dc ⟨g, i * 5, none⟩ (c - i) sc _ 89 (xs.drop (i * 5)) Tryz.underlying87 hsz hb2 (by rw [hmin, hdl]) (fun j u hj => by
      rw [Addr.add_lit]
      rw [List.getElem?_drop, hxs] at hj
      simp [World.cell?, hg2]
      simpa using hj) hf2 (fun v hv => hx1 v (List.mem_of_mem_drop hv))
    rw [hmin] at this
    rw [this]
    have ht : (xs.take (i * 5) ++ q).length = (i + 1) * 5 := by rw [List.length_append, htl, hql]; omega
    have e2 : (xs.take (i * 5) ++ q ++ Z.drop 5).take ((i + 1) * 5) ++ xs.drop (i * 5) ++ (xs.take (i * 5) ++ q ++ Z.drop 5).drop ((i + 1) * 5 + (xs.drop (i * 5)).length) = xs.take (i * 5) ++ q ++ xs.drop (i * 5) ++ Z.drop (m * 5) := by
      rw [List.take_append_of_le_length (by omega), List.take_of_length_le (by omega)]
      rw [List.drop_append, ht]
      have e1 : (xs.take (i * 5) ++ q).drop ((i + 1) * 5 + (xs.drop (i * 5)).length) = [] := by apply List.drop_eq_nil_of_le; omega
      rw [e1, List.nil_append, List.drop_drop, hdl]
      congr 2
      omega
    dsimp only
    rw [e2]
  obtain ⟨W3, hW3⟩ : ∃ W3, W3 = W2.drew.setRow w.heap.size (xs.take (i * 5) ++ q ++ xs.drop (i * 5) ++ Z.drop (m * 5)).toArray := ⟨_, rfl⟩
  rw [← hW3] at hcp2
  have HR : Hid (AppendK 5 B 89 w W3 (.slice (some ⟨g, 0, none⟩) c c) (.slice (some ⟨w.heap.size, 0, none⟩) (c + 1) C) (c + 1) (xs.take (i * 5) ++ q ++ xs.drop (i * 5))) := by
    have hL : (xs.take (i * 5) ++ q ++ xs.drop (i * 5)).length = (c + 1) * 5 := by
      rw [List.length_append, List.length_append, htl, hql, List.length_drop, hxl]
      have e9 : (c + 1) * 5 = c * 5 + 1 * 5 := Nat.add_mul ..
      have e8 : i * 5 ≤ c * 5 := Nat.mul_le_mul_right _ (by omega)
      omega
    refine ⟨⟨hL, .inr ⟨w.heap.size, C, _, rfl, hB, by rw [hW3]; exact setRow_heap W2.drew _ _ _ _ _ hb2, hC1, hC2, ?_, ?_⟩⟩, ?_, fun x hx => .inr (by simp [Value.ownBlock] at hx; omega), ⟨_, _, rfl⟩⟩
    · rw [List.size_toArray, List.length_append, hL, List.length_drop, hZl]; 
      have : m * 5 ≤ (C - i) * 5 := Nat.mul_le_mul_right _ (by omega)
      omega
    · rw [List.toList_toArray, ← hL]; exact List.take_left
    · rw [hW3, hW2, hW1]
      refine ⟨rfl, rfl, rfl, by simp [World.setRow], fun k hk _ => ?_⟩
      have : k ≠ w.heap.size := by omega
      rw [setRow_other _ _ k _ this]
      show (World.setRow _ _ _).heap[k]? = _
      rw [setRow_other _ _ k _ this]
      exact Below.heap_alloc w.drew _ k hk
  have z1 : ¬ ((i : Int) = (c : Int)) := by omega
  have z1' : ((i : Int) == (c : Int)) = false := by simpa using z1
  have z2 : IntKind.i64.wrap ((i : Int) + 1) = (i : Int) + 1 := by rw [IntKind.wrap_i64]; omega
  have z3 : (c : Int) + 1 - (i : Int) = (m : Int) := by omega
  have z4 : ¬ C = i := by omega
  have z5 : ¬ C = i + 1 := by omega
  have z6 : ¬ c = i := by omega
  have z7 : ((i : Int) + 1).toNat = i + 1 := by omega
  have z8 : (0 : Int) ≤ (i : Int) + 1 := by omega
  have z9 : (c : Int) < (c : Int) + 1 := by omega
  have z10 : i ≤ c := by omega
  have z11 : (i : Int) + 1 ≤ (c : Int) + 1 := by omega
  have Hzg : Hid _ := hzg'
  have hc1 := fun ty dc => hcp1 ty dc (i * 5) (by omega)
  have hc2 := fun ty dc sc => hcp2 ty dc sc ((i + 1) * 5) (i * 5) (by omega) (by omega)
  clear hW1 hW2 hW3 hzg hzg' hcp1 hcp2 hb1 hb2 hg1 hg2 hq1 hql1 hrow hZ hC hold hcell hxs htk hcs hm e1 hg hq hxl hsz h1 hx1 hql hZl hik htl
  go_enter Tryz.func167, Tryz.ntmps167
  go_wp2_with (at_builtin; refine Lib.wpList_append_run _ rfl _ _ 87 3 rfl _ _ rfl rfl _ _ (Hzg.out _) ?_)
  go_region
  go_wp2
  go_ret
  exact ⟨_, rfl, HR.out⟩

set_option maxRecDepth 100000 in
set_option maxHeartbeats 4000000 in
/-- In the middle, with room: in place. -/
theorem insEnt_shift (B : Nat) (n c i g : Nat) (cur : Array Value) (xs q : List Value) (vb : Nat) (w : World) (hg : w.heap[g]? = some (.cells cur 89 (0, 0))) (hBg : B ≤ g) (hcs : cur.size = c * 5) (htk : cur.toList.take (n * 5) = xs) (hi' : i < n) (hc : n + 1 ≤ c) (hc63 : c ≤ maxLen) (hn : n ≤ 100000) (hx1 : ∀ v ∈ xs, v.oneCell' = true)
    (hq : w.heap[vb]? = some (.cells q.toArray 89 (0, 0))) (hvb : vb ≠ g) (hql : q.length = 5) (h1 : ∀ v ∈ q, v.oneCell' = true) (hB : B ≤ w.heap.size) :
    Calls Tryz.prog 167 #[.slice (some ⟨g, 0, none⟩) n c, .int .i64 i, .slice (some ⟨vb, 0, none⟩) 1 1] w fun e w' => ∃ v', e = .returned v' ∧ AppendK 5 B 89 w w' (.slice (some ⟨g, 0, none⟩) n c) v' (n + 1) (xs.take (i * 5) ++ q ++ xs.drop (i * 5)) := by
  obtain ⟨i0, hi, hz0, hz1, hz2⟩ := infoEnt_parts
  have hsz : (Tryz.prog.info? 89).map (·.size) = some 5 := by rw [hi]; simp [hz1]
  have hnc : n * 5 + 1 * 5 ≤ c * 5 := by rw [← Nat.add_mul]; exact Nat.mul_le_mul_right _ hc
  have hxl : xs.length = n * 5 := by rw [← htk, List.length_take, Array.length_toList, hcs]; omega
  have hik : i * 5 + 1 * 5 ≤ n * 5 := by rw [← Nat.add_mul]; exact Nat.mul_le_mul_right _ hi'
  obtain ⟨Y, hY⟩ : ∃ Y, Y = cur.toList.drop (n * 5) := ⟨_, rfl⟩
  have hcur : cur = (xs ++ Y).toArray := by
    apply Array.ext'; rw [List.toList_toArray, ← htk, hY, List.take_append_drop]
  have hYl : Y.length = c * 5 - n * 5 := by rw [hY, List.length_drop, Array.length_toList, hcs]
  have hcell : ∀ (W : World), W.heap[g]? = some (.cells (xs ++ Y).toArray 89 (0, 0)) → ∀ j u, xs[j]? = some u → W.cell? ⟨g, j, none⟩ = some u := fun W hW j u hj => by
    have hjl : j < xs.length := (List.getElem?_eq_some_iff.1 hj).1
    simp [World.cell?, hW]
    rw [List.getElem?_append_left hjl]; exact hj
  rw [hcur] at hg
  have htl : (xs.take (i * 5)).length = i * 5 := by rw [List.length_take]; omega
  have hdl : (xs.drop (i * 5)).length = (n - i) * 5 := by rw [List.length_drop, hxl, Nat.sub_mul]
  have hni : (n - i) * 5 = n * 5 - i * 5 := Nat.sub_mul ..
  -- the first copy: what stands behind goes up
  have hcp1 : ∀ ty dc sc oo pp, oo = (i + 1) * 5 → pp = i * 5 → (Builtin.copy_ #[87, 87] ty #[.slice (some ⟨g, oo, none⟩) (n - i) dc, .slice (some ⟨g, pp, none⟩) (n + 1 - i) sc]).run Tryz.prog w.drew = .ok (goInt ((n - i : Nat) : Int)) (w.drew.setRow g ((xs ++ Y).take ((i + 1) * 5) ++ xs.drop (i * 5) ++ (xs ++ Y).drop ((i + 1) * 5 + (n - i) * 5)).toArray) := fun ty dc sc oo pp hoo hpp => by
    subst hoo hpp
    have hmin : Nat.min (n + 1 - i) (n - i) = n - i := Nat.min_eq_right (by omega)
    have hf1 : (i + 1) * 5 + (xs.drop (i * 5)).length ≤ (xs ++ Y).toArray.size := by
      rw [List.size_toArray, List.length_append, hxl, hYl, hdl]
      have e9 : (i + 1) * 5 = i * 5 + 1 * 5 := Nat.add_mul ..
      omega
    have := copy_rowK (P := Tryz.prog) 5 w.drew 87 87 ty 89 g ((i + 1) * 5) (n - i) dc ⟨g, i * 5, none⟩ (n + 1 - i) sc _ 89 (xs.drop (i * 5)) Tryz.underlying87 hsz hg (by rw [hmin, hdl]) (fun j u hj => by
      rw [Addr.add_lit]
      rw [List.getElem?_drop] at hj
      exact hcell w hg _ u hj) hf1 (fun v hv => hx1 v (List.mem_of_mem_drop hv))
    rw [hmin, hdl] at this
    rw [this]
  obtain ⟨R1, hR1⟩ : ∃ R1, R1 = (xs ++ Y).take ((i + 1) * 5) ++ xs.drop (i * 5) ++ (xs ++ Y).drop ((i + 1) * 5 + (n - i) * 5) := ⟨_, rfl⟩
  rw [← hR1] at hcp1
  have e9 : (i + 1) * 5 = i * 5 + 1 * 5 := Nat.add_mul ..
  have ht1 : ((xs ++ Y).take ((i + 1) * 5)).length = (i + 1) * 5 := by rw [List.length_take, List.length_append, hxl, hYl]; omega
  have hR1l : R1.length = c * 5 := by
    rw [hR1, List.length_append, List.length_append, ht1, hdl, List.length_drop, List.length_append, hxl, hYl]; omega
  have hR1t : R1.take (i * 5) = xs.take (i * 5) := by
    rw [hR1, List.append_assoc, List.take_append_of_le_length (by rw [ht1]; omega), List.take_take, show min (i * 5) ((i + 1) * 5) = i * 5 by omega, List.take_append_of_le_length (by rw [hxl]; omega)]
  have hR1d : R1.drop ((i + 1) * 5) = xs.drop (i * 5) ++ (xs ++ Y).drop ((i + 1) * 5 + (n - i) * 5) := by
    rw [hR1, List.append_assoc, List.drop_append, ht1, List.drop_eq_nil_of_le (by rw [ht1]; exact Nat.le_refl _), Nat.sub_self]; rfl
  obtain ⟨W1, hW1⟩ : ∃ W1, W1 = w.drew.setRow g R1.toArray := ⟨_, rfl⟩
  rw [← hW1] at hcp1
  have hg1 : W1.heap[g]? = some (.cells R1.toArray 89 (0, 0)) := by rw [hW1]; exact setRow_heap w.drew g _ _ _ _ hg
  have hq1 : W1.heap[vb]? = some (.cells q.toArray 89 (0, 0)) := by rw [hW1]; exact (setRow_other w.drew g vb _ hvb).trans hq
  -- the second copy: the new one
  have hcp2 : ∀ ty dc pp, pp = i * 5 → (Builtin.copy_ #[87, 87] ty #[.slice (some ⟨g, pp, none⟩) (n + 1 - i) dc, .slice (some ⟨vb, 0, none⟩) 1 1]).run Tryz.prog W1 = .ok (goInt 1) (W1.setRow g (xs.take (i * 5) ++ q ++ xs.drop (i * 5) ++ (xs ++ Y).drop ((i + 1) * 5 + (n - i) * 5)).toArray) := fun ty dc pp hpp => by
    subst hpp
    have hmin : Nat.min 1 (n + 1 - i) = 1 := Nat.min_eq_left (by omega)
    have := copy_rowK (P := Tryz.prog) 5 W1 87 87 ty 89 g (i * 5) (n + 1 - i) dc ⟨vb, 0, none⟩ 1 1 _ 89 q Tryz.underlying87 hsz hg1 (by rw [hmin, hql]) (fun j u hj => by
      rw [Addr.add_lit, Nat.zero_add]; simp [World.cell?, hq1]; simpa using hj) (by rw [List.size_toArray, hR1l, hql]; omega) h1
    rw [hmin] at this
    rw [this]
    dsimp only
    rw [hR1t, hql, show i * 5 + 5 = (i + 1) * 5 by omega, hR1d, ← List.append_assoc]
    rfl
  obtain ⟨W2, hW2⟩ : ∃ W2, W2 = W1.setRow g (xs.take (i * 5) ++ q ++ xs.drop (i * 5) ++ (xs ++ Y).drop ((i + 1) * 5 + (n - i) * 5)).toArray := ⟨_, rfl⟩
  rw [← hW2] at hcp2
  have HR : Hid (AppendK 5 B 89 w W2 (.slice (some ⟨g, 0, none⟩) n c) (.slice (some ⟨g, 0, none⟩) (n + 1) c) (n + 1) (xs.take (i * 5) ++ q ++ xs.drop (i * 5))) := by
    have hL : (xs.take (i * 5) ++ q ++ xs.drop (i * 5)).length = (n + 1) * 5 := by
      rw [List.length_append, List.length_append, htl, hql, hdl]
      have e9 : (n + 1) * 5 = n * 5 + 1 * 5 := Nat.add_mul ..
      omega
    refine ⟨⟨hL, .inr ⟨g, c, _, rfl, hBg, by rw [hW2]; exact setRow_heap W1 _ _ _ _ _ hg1, hc, hc63, ?_, ?_⟩⟩, ?_, fun x hx => .inl hx, ⟨_, _, rfl⟩⟩
    · rw [List.size_toArray, List.length_append, hL, List.length_drop, List.length_append, hxl, hYl]
      have e8 : (n + 1) * 5 = n * 5 + 1 * 5 := Nat.add_mul ..
      omega
    · rw [List.toList_toArray, ← hL]; exact List.take_left
    · rw [hW2, hW1]
      refine ⟨rfl, rfl, rfl, by simp [World.setRow], fun k hk hne => ?_⟩
      have : k ≠ g := fun e => hne (by rw [e]; rfl)
      rw [setRow_other _ _ k _ this]
      show (World.setRow _ _ _).heap[k]? = _
      rw [setRow_other _ _ k _ this]
      rfl
  have hov : ∀ lb cb oo, (callFunc 202 #[.slice (some ⟨vb, 0, none⟩) 1 1, .slice (some ⟨g, oo, none⟩) lb cb]).run Tryz.prog w = .ok (.value (.bool false)) w := fun lb cb oo => by
    have hsa : w.shape? vb = some (89, 5) := by simp [World.shape?, hq, hql]
    have hsb : w.shape? g = some (89, c * 5) := by simp [World.shape?, hg, hxl, hYl]; omega
    rw [run_callFunc_extern Tryz.func202 (by kernel_rfl) (by kernel_rfl) (by kernel_rfl) (e := Extern.SlicesOverlaps.overlaps #[87, 87] #[4]) (by kernel_rfl),
      Lib.run_overlaps_apart w 87 4 89 Tryz.underlying87 5 sizeEnt ⟨vb, 0, none⟩ ⟨g, oo, none⟩ 1 1 lb cb hvb _ _ 5 (c * 5) hsa hsb (by omega) (by simp [World.frozen?, hq]) (by simp [World.frozen?, hq])]
    rfl
  have z1 : ¬ ((i : Int) = (n : Int)) := by omega
  have z1' : ((i : Int) == (n : Int)) = false := by simpa using z1
  have z2 : IntKind.i64.wrap ((i : Int) + 1) = (i : Int) + 1 := by rw [IntKind.wrap_i64]; omega
  have z4 : ¬ c = i := by omega
  have z5 : ¬ c = i + 1 := by omega
  have z7 : ((i : Int) + 1).toNat = i + 1 := by omega
  have z8 : (0 : Int) ≤ (i : Int) + 1 := by omega
  have z9 : ¬ (c : Int) < (n : Int) + 1 := by omega
  have z10 : i ≤ n := by omega
  have z11 : (i : Int) + 1 ≤ (n : Int) + 1 := by omega
  have z12 : (n : Int) + 1 ≤ (c : Int) := by omega
  have z13 : (i : Int) ≤ (n : Int) + 1 := by omega
  have hc1 := fun ty dc sc => hcp1 ty dc sc ((i + 1) * 5) (i * 5) (by omega) (by omega)
  have hc2 := fun ty dc => hcp2 ty dc (i * 5) (by omega)
  have Hov : Hid _ := hov
  clear hW1 hW2 hcp1 hcp2 hg1 hq1 hcell htk hcs hg hq hsz h1 hx1 hql hik htl hdl hni hR1 hR1l hR1t hR1d ht1 hYl hY hcur hxl hov hnc e9
  unfold maxLen at hc63
  go_enter Tryz.func167, Tryz.ntmps167
  go_wp2_with (simp only [Hov.out])
  go_region
  go_wp2
  go_ret
  exact ⟨_, rfl, HR.out⟩

/-- Anywhere. -/
theorem insEnt_any (B : Nat) (v : Value) (n i : Nat) (xs q : List Value) (vb : Nat) (w : World) (hown : w.ownsRow B 89 5 v n xs) (hi : i ≤ n) (hn : n ≤ 100000) (hx1 : ∀ v ∈ xs, v.oneCell' = true)
    (hq : w.heap[vb]? = some (.cells q.toArray 89 (0, 0))) (hvb : v.ownBlock ≠ some vb) (hql : q.length = 5) (h1 : ∀ v ∈ q, v.oneCell' = true) (hB : B ≤ w.heap.size) :
    Calls Tryz.prog 167 #[v, .int .i64 i, .slice (some ⟨vb, 0, none⟩) 1 1] w fun e w' => ∃ v', e = .returned v' ∧ AppendK 5 B 89 w w' v v' (n + 1) (xs.take (i * 5) ++ q ++ xs.drop (i * 5)) := by
  by_cases hin : i = n
  · subst hin
    have hl := hown.1
    have := insEnt_end B v i xs q vb w hown hn hq hql h1 hB
    rw [List.take_of_length_le (by omega), List.drop_eq_nil_of_le (by omega), List.append_nil]
    exact this
  · rcases hown.2 with ⟨_, h0⟩ | ⟨g, cap, cur, rfl, hBg, hg, hnc, hcm, hcs, htk⟩
    · omega
    · by_cases hroom : n + 1 ≤ cap
      · exact insEnt_shift B n cap i g cur xs q vb w hg hBg hcs htk (by omega) hroom hcm hn hx1 hq (fun e => hvb (by rw [e]; rfl)) hql h1 hB
      · exact insEnt_grow B n cap i g cur xs q vb w hg hcs htk (by omega) hnc (by omega) hn hx1 hq hql h1 hB

end Go.Proofs.YtmajlldfiiokoaaGreatDoor

/- A table in memory. -/
namespace Go.Proofs.YtmajlldfiiokoaaGreatDoor
open Go.ChangeShapes Go.WideShapes Go.ChangeAt Go.RowKit
set_option linter.unusedVariables false

/-- An entry's filters lie somewhere, clear of the table's own blocks. -/
structure FilOk (w : World) (r : Nat) (v : Value) (x : Ep) : Prop where
  str : StrIn w x.a x.ln x.fs
  le : x.ln ≤ 16
  cl : ∀ b, x.a = some b → b.block < w.heap.size ∧ b.block ≠ r ∧ v.ownBlock ≠ some b.block
structure Tb (w : World) (B r : Nat) (v : Value) (X : List Ep) : Prop where
  box : w.heap[r]? = some (.cells #[v] 200 (0, 0))
  lo : B ≤ r
  row : w.ownsRow B 89 5 v X.length (X.flatMap Ep.cells)
  ne : v.ownBlock ≠ some r
  fil : ∀ x ∈ X, FilOk w r v x
  asc : Asc ltK (X.map Ep.key)
  le : X.length ≤ 400
/-- What stays when a table is written: all but its box and its row. -/
structure KT (w w' : World) (r : Nat) (v v' : Value) : Prop where
  os : w'.os = w.os
  tape : w'.tape = w.tape
  output : w'.output = w.output
  size : w.heap.size ≤ w'.heap.size
  block : ∀ b, b < w.heap.size → b ≠ r → v.ownBlock ≠ some b → w'.heap[b]? = w.heap[b]?
  own : ∀ b, v'.ownBlock = some b → v.ownBlock = some b ∨ w.heap.size ≤ b
theorem KT.ofBelow {w w' : World} {r : Nat} {v : Value} (h : Below w.heap.size w w') : KT w w' r v v := ⟨h.os, h.tape, h.output, h.size, fun b hb _ _ => h.block b hb, fun b hb => .inl hb⟩
theorem KT.trans {a b c : World} {r : Nat} {v v' v'' : Value} (h : KT a b r v v') (h' : KT b c r v' v'') : KT a c r v v'' := by
  refine ⟨h'.os.trans h.os, h'.tape.trans h.tape, h'.output.trans h.output, Nat.le_trans h.size h'.size, fun x hx h1 h2 => ?_, fun x hx => ?_⟩
  · refine (h'.block x (Nat.lt_of_lt_of_le hx h.size) h1 (fun e => ?_)).trans (h.block x hx h1 h2)
    rcases h.own x e with q | q
    · exact h2 q
    · omega
  · rcases h'.own x hx with q | q
    · exact h.own x q
    · exact .inr (Nat.le_trans h.size q)
theorem KT.below {w w' : World} {r B : Nat} {v v' : Value} (h : KT w w' r v v') (hr : B ≤ r) (hv : ∀ b, v.ownBlock = some b → B ≤ b) (hB : B ≤ w.heap.size) : Below B w w' :=
  ⟨h.os, h.tape, h.output, h.size, fun k hk => h.block k (by omega) (by omega) (fun e => by have := hv k e; omega)⟩

theorem Tb.lt {w : World} {B r : Nat} {v : Value} {X : List Ep} (h : Tb w B r v X) : r < w.heap.size := lt_blk h.box
theorem Tb.cell {w : World} {B r : Nat} {v : Value} {X : List Ep} (h : Tb w B r v X) : w.cell? ⟨r, 0, none⟩ = some v := by simp [World.cell?, h.box]
theorem Tb.vlo {w : World} {B r : Nat} {v : Value} {X : List Ep} (h : Tb w B r v X) : ∀ b, v.ownBlock = some b → B ≤ b := fun b hb => (h.row.lt b hb).1
theorem StrIn.at {w w' : World} {a : Option Addr} {len : Nat} {L : List ByteArray} (h : StrIn w a len L) (hz : w.heap.size ≤ w'.heap.size) (hb : ∀ b, a = some b → w'.heap[b.block]? = w.heap[b.block]?) : StrIn w' a len L := by
  refine ⟨h.1, ?_⟩
  rcases h.2 with h0 | ⟨b, o, ha, hlt, hc⟩
  · exact .inl h0
  · exact .inr ⟨b, o, ha, by omega, fun j hj => (World.cell?_of_block (a := ⟨b, o + j, none⟩) (hb ⟨b, o, none⟩ ha)).trans (hc j hj)⟩
theorem FilOk.below {w w' : World} {r : Nat} {v : Value} {x : Ep} (h : FilOk w r v x) (hb : Below w.heap.size w w') : FilOk w' r v x :=
  ⟨h.str.below (Nat.le_refl _) hb, h.le, fun b hx => ⟨Nat.lt_of_lt_of_le (h.cl b hx).1 hb.size, (h.cl b hx).2⟩⟩
theorem Tb.below {w w' : World} {B r : Nat} {v : Value} {X : List Ep} (h : Tb w B r v X) (hb : Below w.heap.size w w') : Tb w' B r v X :=
  ⟨(hb.block r h.lt).trans h.box, h.lo, row_atJ h.row (fun k hk => hb.block k (h.row.lt k hk).2), h.ne, fun x hx => (h.fil x hx).below hb, h.asc, h.le⟩
theorem Tb.shape {w : World} {B r : Nat} {v : Value} {X : List Ep} (h : Tb w B r v X) : ∃ a c, v = .slice a X.length c := by
  rcases h.row.2 with ⟨rfl, h2⟩ | ⟨gg, c, cur, hv, _⟩
  · exact ⟨none, 0, by rw [h2]⟩
  · exact ⟨_, c, hv⟩
/-- The entries, as they are read. -/
theorem Tb.ent {w : World} {B r : Nat} {a : Option Addr} {c : Nat} {X : List Ep} (h : Tb w B r (.slice a X.length c) X) : EntIn w a X.length X := by
  refine ⟨rfl, by have := h.le; omega, ?_⟩
  rcases h.row.2 with ⟨_, h0⟩ | ⟨g, cap, cur, hv, _, hg, _⟩
  · exact .inl h0
  · have hc := h.row.cells (g := g) (by rw [hv]; rfl)
    simp only [Value.slice.injEq] at hv
    refine .inr ⟨g, 0, hv.1, lt_blk hg, fun i hi => ⟨⟨(h.fil _ (getD_memL ep0 X i hi)).str, by have := (h.fil _ (getD_memL ep0 X i hi)).le; omega⟩, fun j hj => ?_⟩⟩
    have hx := flat_get Ep.cells 5 Ep.cells_len ep0 X i j hi hj
    have hj' : j < (X.getD i ep0).cells.length := hj
    have e := hc (i * 5 + j) ((X.getD i ep0).cells[j]) (by rw [hx, List.getElem?_eq_getElem hj'])
    rw [Addr.add_lit] at e
    rw [Nat.add_assoc, e, List.getElem?_eq_getElem hj']
theorem Tb.new (w : World) : Tb (w.alloc (.cells #[.slice none 0 0] 200)) w.heap.size w.heap.size (.slice none 0 0) [] :=
  ⟨heap_alloc_new w _, Nat.le_refl _, World.ownsRow_nil _ _ _ _, by simp [Value.ownBlock], (fun x hx => by cases hx), List.Pairwise.nil, by simp⟩
/-- What an entry wants, cleaned. -/
def cleanW (x : Bool × List ByteArray) : Bool × List ByteArray :=
  match joinE [] [x] with
  | none => (true, [])
  | some acc => (false, acc)
theorem set5 (X : List Ep) (i : Nat) (x : Ep) (hi : i < X.length) :
    (((((X.flatMap Ep.cells).set (i * 5) (.string x.gr)).set (i * 5 + 1) (.int .i64 x.ch)).set (i * 5 + 2) (.slice x.a x.ln x.cp)).set (i * 5 + 3) (.bool x.any)).set (i * 5 + 4) (.int .i64 x.till) = (X.set i x).flatMap Ep.cells := by
  induction X generalizing i with
  | nil => simp at hi
  | cons y X ih =>
    cases i with
    | zero => simp [Ep.cells]
    | succ i =>
      have hi' : i < X.length := by simpa using hi
      have := ih i hi'
      simp only [List.flatMap_cons, List.set_cons_succ, ← this]
      have e : y.cells = [.string y.gr, .int .i64 y.ch, .slice y.a y.ln y.cp, .bool y.any, .int .i64 y.till] := rfl
      rw [e]
      simp only [show (i + 1) * 5 = i * 5 + 5 by omega, show i * 5 + 5 + 1 = i * 5 + 1 + 5 by omega, show i * 5 + 5 + 2 = i * 5 + 2 + 5 by omega, show i * 5 + 5 + 3 = i * 5 + 3 + 5 by omega, show i * 5 + 5 + 4 = i * 5 + 4 + 5 by omega]
      simp only [List.cons_append, List.nil_append, List.set_cons_succ]
theorem setCell_heap {w : World} {g j k : Nat} (h : k ≠ g) (u : Value) : (w.setCell ⟨g, j, none⟩ u).heap[k]? = w.heap[k]? := Below.heap_setCell _ _ _ _ h
theorem FilOk.at {w w' : World} {r : Nat} {v v' : Value} {x : Ep} (h : FilOk w r v x) (hz : w.heap.size ≤ w'.heap.size) (hb : ∀ b, x.a = some b → w'.heap[b.block]? = w.heap[b.block]?) (hv : ∀ b, x.a = some b → v'.ownBlock ≠ some b.block) : FilOk w' r v' x :=
  ⟨h.str.at hz hb, h.le, fun b hx => ⟨Nat.lt_of_lt_of_le (h.cl b hx).1 hz, (h.cl b hx).2.1, hv b hx⟩⟩
/-- An entry takes the place of one with its key. -/
theorem Tb.set {w : World} {B r gr n cp : Nat} {X : List Ep} (h : Tb w B r (.slice (some ⟨gr, 0, none⟩) n cp) X) (hn : n = X.length) {k : Nat} (hk : k < n) (x : Ep) (hkey : x.key = (X.map Ep.key).getD k (ByteArray.empty, 0)) (hx : FilOk w r (.slice (some ⟨gr, 0, none⟩) n cp) x) :
    Tb (((((w.drew.setCell ⟨gr, k * 5, none⟩ (.string x.gr)).setCell ⟨gr, k * 5 + 1, none⟩ (.int .i64 x.ch)).setCell ⟨gr, k * 5 + 2, none⟩ (.slice x.a x.ln x.cp)).setCell ⟨gr, k * 5 + 3, none⟩ (.bool x.any)).setCell ⟨gr, k * 5 + 4, none⟩ (.int .i64 x.till)) B r (.slice (some ⟨gr, 0, none⟩) n cp) (X.set k x) ∧
    KT w (((((w.drew.setCell ⟨gr, k * 5, none⟩ (.string x.gr)).setCell ⟨gr, k * 5 + 1, none⟩ (.int .i64 x.ch)).setCell ⟨gr, k * 5 + 2, none⟩ (.slice x.a x.ln x.cp)).setCell ⟨gr, k * 5 + 3, none⟩ (.bool x.any)).setCell ⟨gr, k * 5 + 4, none⟩ (.int .i64 x.till)) r (.slice (some ⟨gr, 0, none⟩) n cp) (.slice (some ⟨gr, 0, none⟩) n cp) := by
  have hrow : w.drew.ownsRow B 89 5 (.slice (some ⟨gr, 0, none⟩) n cp) n (X.flatMap Ep.cells) := by have := h.row; rw [← hn] at this; exact row_atJ this (fun _ _ => rfl)
  have s1 := (hrow.stored (k * 5) (.string x.gr)).1
  have s2 := (s1.stored (k * 5 + 1) (.int .i64 x.ch)).1
  have s3 := (s2.stored (k * 5 + 2) (.slice x.a x.ln x.cp)).1
  have s4 := (s3.stored (k * 5 + 3) (.bool x.any)).1
  have s5 := (s4.stored (k * 5 + 4) (.int .i64 x.till)).1
  rw [set5 X k x (by omega)] at s5
  obtain ⟨W, hW⟩ : ∃ W, W = ((((w.drew.setCell ⟨gr, k * 5, none⟩ (.string x.gr)).setCell ⟨gr, k * 5 + 1, none⟩ (.int .i64 x.ch)).setCell ⟨gr, k * 5 + 2, none⟩ (.slice x.a x.ln x.cp)).setCell ⟨gr, k * 5 + 3, none⟩ (.bool x.any)).setCell ⟨gr, k * 5 + 4, none⟩ (.int .i64 x.till) := ⟨_, rfl⟩
  have hbk : ∀ b, b ≠ gr → W.heap[b]? = w.heap[b]? := fun b hb => by
    rw [hW]
    exact (setCell_heap hb _).trans ((setCell_heap hb _).trans ((setCell_heap hb _).trans ((setCell_heap hb _).trans ((setCell_heap hb _).trans (show w.drew.heap[b]? = w.heap[b]? from rfl)))))
  have hsc : ∀ (u : World) (p : Addr) (y : Value), (u.setCell p y).heap.size = u.heap.size ∧ (u.setCell p y).os = u.os ∧ (u.setCell p y).tape = u.tape ∧ (u.setCell p y).output = u.output := fun u p y => ⟨by simp [World.setCell], rfl, rfl, rfl⟩
  have hsz : w.heap.size ≤ W.heap.size := by
    rw [hW, (hsc _ _ _).1, (hsc _ _ _).1, (hsc _ _ _).1, (hsc _ _ _).1, (hsc _ _ _).1]; exact Nat.le_refl _
  have hos : W.os = w.os ∧ W.tape = w.tape ∧ W.output = w.output := by
    rw [hW]
    refine ⟨?_, ?_, ?_⟩
    · rw [(hsc _ _ _).2.1, (hsc _ _ _).2.1, (hsc _ _ _).2.1, (hsc _ _ _).2.1, (hsc _ _ _).2.1]; rfl
    · rw [(hsc _ _ _).2.2.1, (hsc _ _ _).2.2.1, (hsc _ _ _).2.2.1, (hsc _ _ _).2.2.1, (hsc _ _ _).2.2.1]; rfl
    · rw [(hsc _ _ _).2.2.2, (hsc _ _ _).2.2.2, (hsc _ _ _).2.2.2, (hsc _ _ _).2.2.2, (hsc _ _ _).2.2.2]; rfl
  rw [← hW] at s5 ⊢
  have hner : r ≠ gr := fun e => h.ne (by rw [e]; rfl)
  have hkm : (X.set k x).map Ep.key = X.map Ep.key := by
    rw [List.map_set, hkey]
    apply List.ext_getElem?
    intro t
    rw [List.getElem?_set]
    by_cases e : k = t
    · subst e
      have : k < (X.map Ep.key).length := by simp; omega
      simp only [if_true, this, List.getD_eq_getElem?_getD, List.getElem?_eq_getElem this]; rfl
    · simp [e]
  have hfar : ∀ y : Ep, FilOk w r (.slice (some ⟨gr, 0, none⟩) n cp) y → FilOk W r (.slice (some ⟨gr, 0, none⟩) n cp) y := fun y hy =>
    hy.at hsz (fun b hb => hbk _ (fun e => (hy.cl b hb).2.2 (by rw [e]; rfl))) (fun b hb => (hy.cl b hb).2.2)
  refine ⟨⟨(hbk r hner).trans h.box, h.lo, by rw [List.length_set, ← hn]; exact s5, h.ne, fun y hy => ?_, by rw [hkm]; exact h.asc, by rw [List.length_set]; exact h.le⟩, ⟨hos.1, hos.2.1, hos.2.2, hsz, fun b hb h1 h2 => hbk b (fun e => h2 (by rw [e]; rfl)), fun b hb => .inl hb⟩⟩
  rcases List.mem_or_eq_of_mem_set hy with q | q
  · exact hfar y (h.fil y q)
  · rw [q]; exact hfar x hx
theorem take5 (X : List Ep) (k : Nat) : (X.flatMap Ep.cells).take (k * 5) = (X.take k).flatMap Ep.cells := flat_take Ep.cells 5 Ep.cells_len X k
theorem drop5 (X : List Ep) (k : Nat) : (X.flatMap Ep.cells).drop (k * 5) = (X.drop k).flatMap Ep.cells := flat_drop Ep.cells 5 Ep.cells_len X k
/-- An entry more. -/
theorem Tb.ins {w W w3 : World} {B r : Nat} {v v' : Value} {X : List Ep} (h : Tb w B r v X) (hw : Below w.heap.size w W) {k : Nat} (x : Ep) (hk : k = lb ltK (X.map Ep.key) x.key) (hnot : x.key ∉ X.map Ep.key) (hx : FilOk w r v x) (hl : X.length < 400)
    (ha : AppendK 5 B 89 W w3 v v' (X.length + 1) ((X.flatMap Ep.cells).take (k * 5) ++ x.cells ++ (X.flatMap Ep.cells).drop (k * 5))) :
    Tb (w3.setCell ⟨r, 0, none⟩ v') B r v' (X.take k ++ [x] ++ X.drop k) ∧ KT w (w3.setCell ⟨r, 0, none⟩ v') r v v' := by
  have hX' : (X.take k ++ [x] ++ X.drop k).flatMap Ep.cells = (X.flatMap Ep.cells).take (k * 5) ++ x.cells ++ (X.flatMap Ep.cells).drop (k * 5) := by
    rw [take5, drop5]; simp
  have hkl : k ≤ X.length := by rw [hk]; have := lb_le (lt := ltK) (X.map Ep.key) x.key; simpa using this
  have hlen : (X.take k ++ [x] ++ X.drop k).length = X.length + 1 := by simp; omega
  have h1 := h.below hw
  have hrl : r < W.heap.size := h1.lt
  have hsz : w.heap.size ≤ w3.heap.size := Nat.le_trans hw.size ha.grown.size
  have hown : ∀ b, v'.ownBlock = some b → v.ownBlock = some b ∨ w.heap.size ≤ b := fun b hb => by
    rcases ha.new b hb with q | q
    · exact .inl q
    · exact .inr (Nat.le_trans hw.size q)
  have hner : v'.ownBlock ≠ some r := fun e => by
    rcases ha.new r e with q | q
    · exact h.ne q
    · omega
  have hb3 : w3.heap[r]? = some (.cells #[v] 200 (0, 0)) := (ha.grown.block r hrl (fun e => h.ne e.symm)).trans h1.box
  have hbk : ∀ b, b < w.heap.size → b ≠ r → v.ownBlock ≠ some b → (w3.setCell ⟨r, 0, none⟩ v').heap[b]? = w.heap[b]? := fun b hb h2 h3 => by
    rw [setCell_heap h2, ha.grown.block b (Nat.lt_of_lt_of_le hb hw.size) (fun e => h3 e.symm), hw.block b hb]
  have hfar : ∀ y : Ep, FilOk w r v y → FilOk (w3.setCell ⟨r, 0, none⟩ v') r v' y := fun y hy =>
    hy.at (by simp [World.setCell]; exact hsz) (fun b hb => hbk _ (hy.cl b hb).1 (hy.cl b hb).2.1 (hy.cl b hb).2.2) (fun b hb e => by
      rcases hown _ e with q | q
      · exact (hy.cl b hb).2.2 q
      · have := (hy.cl b hb).1; omega)
  refine ⟨⟨?_, h.lo, ?_, hner, fun y hy => ?_, ?_, by rw [hlen]; omega⟩, ⟨?_, ?_, ?_, by simp [World.setCell]; exact hsz, hbk, hown⟩⟩
  · simp only [World.setCell, Array.getElem?_modify]; rw [hb3]; simp
  · rw [hX', hlen]
    exact row_atJ ha.row (fun b hb => setCell_heap (fun e => hner (by rw [← e]; exact hb)) _)
  · rcases List.mem_append.1 hy with q | q
    · rcases List.mem_append.1 q with q | q
      · exact hfar y (h.fil y (List.mem_of_mem_take q))
      · rw [List.mem_singleton.1 q]; exact hfar x hx
    · exact hfar y (h.fil y (List.mem_of_mem_drop q))
  · have e : (X.take k ++ [x] ++ X.drop k).map Ep.key = putIn ltK (X.map Ep.key) x.key := by
      unfold putIn; rw [← hk]; simp [List.map_take, List.map_drop]
    rw [e]; exact asc_putIn linK _ h.asc _ hnot
  · exact ha.grown.os.trans hw.os
  · exact ha.grown.tape.trans hw.tape
  · exact ha.grown.output.trans hw.output
end Go.Proofs.YtmajlldfiiokoaaGreatDoor

/- table.Put. -/
namespace Go.Proofs.YtmajlldfiiokoaaGreatDoor
open Go.ChangeShapes Go.WideShapes Go.ChangeAt Go.RowKit
set_option linter.unusedVariables false

def putE (X : List Ep) (x : Ep) : List Ep := if hasK (X.map Ep.key) x.key then X.set (lb ltK (X.map Ep.key) x.key) x else X.take (lb ltK (X.map Ep.key) x.key) ++ [x] ++ X.drop (lb ltK (X.map Ep.key) x.key)

theorem EBox.drew {w wr : World} {z : Nat} {g : ByteArray} {c : Int} {f : Option Addr} {l p : Nat} {a : Bool} {t : Int} (h : EBox w wr z g c f l p a t) : EBox w wr.drew z g c f l p a t := h.below ⟨rfl, rfl, rfl, Nat.le_refl _, fun _ _ => rfl⟩
/-- The entry in its box, cleaned. -/
structure EClean (w wr : World) (z : Nat) (g : ByteArray) (c till : Int) (want : Bool × List ByteArray) (fa : Option Addr) (fl fc : Nat) (any : Bool) (fs : List ByteArray) : Prop where
  box : EBox w wr z g c fa fl fc any till
  is : (any, fs) = cleanW want
  str : StrIn wr fa fl fs
  le : fl ≤ 16
  new : ∀ b, fa = some b → w.heap.size ≤ b.block ∧ b.block < wr.heap.size ∧ b.block ≠ z

theorem box2_set {w : World} {z : Nat} {v0 v1 v2 v3 v4 u2 u3 : Value} {T : TypeId} (h : w.heap[z]? = some (.cells #[v0, v1, v2, v3, v4] T (0, 0))) :
    ((w.setCell ⟨z, 2, none⟩ u2).setCell ⟨z, 3, none⟩ u3).heap[z]? = some (.cells #[v0, v1, u2, u3, v4] T (0, 0)) := by
  have h1 : (w.setCell ⟨z, 2, none⟩ u2).heap[z]? = some (.cells #[v0, v1, u2, v3, v4] T (0, 0)) := by
    simp only [World.setCell, Array.getElem?_modify]; rw [h]; simp
  simp only [World.setCell, Array.getElem?_modify] at h1 ⊢
  rw [h1]; simp
theorem below_set2 {B : Nat} {w0 w : World} (h : Below B w0 w) {z : Nat} (hz : B ≤ z) (u2 u3 : Value) : Below B w0 ((w.setCell ⟨z, 2, none⟩ u2).setCell ⟨z, 3, none⟩ u3) := (h.setCell (p := ⟨z, 2, none⟩) hz u2).setCell (p := ⟨z, 3, none⟩) hz u3
theorem heap_set2 {w : World} {z k : Nat} (hk : k ≠ z) (u2 u3 : Value) : ((w.setCell ⟨z, 2, none⟩ u2).setCell ⟨z, 3, none⟩ u3).heap[k]? = w.heap[k]? := by
  rw [Below.heap_setCell _ _ _ _ hk, Below.heap_setCell _ _ _ _ hk]
theorem cleanW_none {x : Bool × List ByteArray} (h : joinE [] [x] = none) : (true, ([] : List ByteArray)) = cleanW x := by simp [cleanW, h]
theorem cleanW_some {x : Bool × List ByteArray} {acc : List ByteArray} (h : joinE [] [x] = some acc) : (false, acc) = cleanW x := by simp [cleanW, h]

set_option maxRecDepth 100000 in
set_option maxHeartbeats 4000000 in
theorem put_any (B r : Nat) (v : Value) (X : List Ep) (g : ByteArray) (c : Int) (fa : Option Addr) (fl fc : Nat) (any : Bool) (till : Int) (fs : List ByteArray) (w : World) (h : Tb w B r v X) (hf : StrIn w fa fl fs) (hfl : fl ≤ 100000) (hB : B ≤ w.heap.size) (hroom : hasK (X.map Ep.key) (g, c) = true ∨ X.length < 400) :
    Calls Tryz.prog 128 #[.pointer (some ⟨r, 0, none⟩), .agg #[.string g, .int .i64 c, .slice fa fl fc, .bool any, .int .i64 till]] w fun e w' =>
      e = .returned .nilIface ∧ ∃ v' x', (x'.key = (g, c) ∧ x'.till = till ∧ x'.want = cleanW (any, fs)) ∧ Tb w' B r v' (putE X x') ∧ KT w w' r v v' ∧ ∀ b, x'.a = some b → w.heap.size ≤ b.block := by
  obtain ⟨a, cp, hv⟩ := h.shape
  subst hv
  have hle := h.le
  obtain ⟨n, hn⟩ : ∃ n, n = X.length := ⟨_, rfl⟩
  rw [← hn] at h hle hroom ⊢
  have HN : Hid (n = X.length) := hn
  obtain ⟨k, hk⟩ : ∃ k, k = lb ltK (X.map Ep.key) (g, c) := ⟨_, rfl⟩
  obtain ⟨hs, hhs⟩ : ∃ hs, hs = hasK (X.map Ep.key) (g, c) := ⟨_, rfl⟩
  rw [← hhs] at hroom
  have HK : Hid (lb ltK (X.map Ep.key) (g, c) = k) := hk.symm
  have HS : Hid (hasK (X.map Ep.key) (g, c) = hs) := hhs.symm
  have HT : Hid (Tb w B r (.slice a n cp) X) := h
  have HF : Hid (StrIn w fa fl fs) := hf
  have hbsf : ∀ W, Below w.heap.size w W → Calls Tryz.prog 164 #[.slice a n cp, .agg #[.string g, .int .i64 c, .slice fa fl fc, .bool any, .int .i64 till], .func (.func 165) #[] #[]] W fun e w' => e = .returned (.tuple #[.int .i64 k, .bool hs]) ∧ Below W.heap.size W w' := fun W hb => by
    have := bsf_any a n cp X g c fa fl fc any till W (by have := (h.below hb); rw [hn] at this ⊢; exact this.ent) h.asc
    rw [← hk, ← hhs] at this
    exact this
  have HBS : Hid _ := hbsf
  have hrl := h.lt
  have x0 := h.cell
  have hbox : EBox w (w.alloc (.cells #[.string g, .int .i64 c, .slice fa fl fc, .bool any, .int .i64 till] 89)) w.heap.size g c fa fl fc any till := ⟨heap_alloc_new w _, (Below.refl _ _).alloc (Nat.le_refl _) _⟩
  obtain ⟨W0, hW0⟩ : ∃ W0, W0 = w.alloc (.cells #[.string g, .int .i64 c, .slice fa fl fc, .bool any, .int .i64 till] 89) := ⟨_, rfl⟩
  rw [← hW0] at hbox
  have HB0 : Hid _ := hbox
  obtain ⟨y0, y1, y2, y3, y4⟩ := hbox.cells
  have xr := cgE x0 hbox.bel
  have zl := lt_blk hbox.blk
  have rl0 : r < W0.heap.size := Nat.lt_of_lt_of_le hrl hbox.bel.size
  clear h hf hbsf hn hk hhs hbox
  go_enter Tryz.func128, Tryz.ntmps128
  go_upto_region 1 with fail
  rw [← hW0]
  clear hW0 x0
  go_cut [5, 6] (fun x y wx => x = .int .i64 k ∧ y = .bool hs ∧ Hid (EBox w wx w.heap.size g c fa fl fc any till))
  case first =>
    go_region_held3 (fun w' => w'.cell? ⟨w.heap.size, 0, none⟩ = some (.string g) ∧ w'.cell? ⟨w.heap.size, 1, none⟩ = some (.int .i64 c) ∧ w'.cell? ⟨w.heap.size, 2, none⟩ = some (.slice fa fl fc) ∧ w'.cell? ⟨w.heap.size, 3, none⟩ = some (.bool any) ∧ w'.cell? ⟨w.heap.size, 4, none⟩ = some (.int .i64 till) ∧ w'.cell? ⟨r, 0, none⟩ = some (.slice a n cp))
      (first
        | go_keep
        | assumption)
      (first
        | (go_at_call 164; refine Calls.mono (HBS.out _ HB0.out.drew.bel) ?_; rintro e w1 ⟨rfl, hb1⟩
           have hb3 : Below W0.heap.size W0 w1 := ⟨hb1.os, hb1.tape, hb1.output, hb1.size, hb1.block⟩
           have q0 := cgE y0 hb3
           have q1 := cgE y1 hb3
           have q2 := cgE y2 hb3
           have q3 := cgE y3 hb3
           have q4 := cgE y4 hb3
           have qr := cgE xr hb3
           have H5 : Hid (EBox w w1 w.heap.size g c fa fl fc any till) := HB0.out.below hb3
           clear hb1 hb3))
    all_goals (try go_wp2_with fail)
    all_goals go_meet
    all_goals exact ⟨rfl, rfl, H5⟩
  case rest =>
    obtain ⟨rfl, rfl, H1⟩ := hcut
    rename World => w1
    clear HB0 HBS y0 y1 y2 y3 y4 xr zl rl0
    obtain ⟨y0, y1, y2, y3, y4⟩ := H1.out.cells
    have zl := lt_blk H1.out.blk
    have xr := (HT.out.below H1.out.bel).cell
    have rl1 := (HT.out.below H1.out.bel).lt
    have hov : hs = true ∨ (hs = false ∧ ¬ (400 : Int) ≤ (n : Int)) := by
      cases hs with
      | true => exact .inl rfl
      | false => exact .inr ⟨rfl, by rcases hroom with q | q; cases q; omega⟩
    clear hroom
    rcases hov with hh | ⟨hh, hfull⟩
    · subst hh
      go_upto_region 4 with fail
      go_cut [] (fun wx => ∃ fa' fl' fc' any' fs', Hid (EClean w wx w.heap.size g c till (any, fs) fa' fl' fc' any' fs'))
      case first =>
        have hent : EntIn (w1.alloc (.cells #[.string g, .int .i64 c, .slice fa fl fc, .bool any, .int .i64 till] 89)) (some ⟨w1.heap.size, 0, none⟩) 1 [⟨g, c, fa, fl, fc, any, till, fs⟩] := by
          refine ⟨rfl, by omega, .inr ⟨w1.heap.size, 0, rfl, by simp, fun i hi => ?_⟩⟩
          obtain rfl : i = 0 := by omega
          refine ⟨⟨(HF.out.below (Nat.le_refl _) (H1.out.bel.trans ((Below.refl _ _).alloc (by exact H1.out.bel.size) _))), hfl⟩, fun j hj => ?_⟩
          have hbk := heap_alloc_new w1 (.cells #[.string g, .int .i64 c, .slice fa fl fc, .bool any, .int .i64 till] 89)
          simp only [World.cell?, hbk]
          simp [Ep.cells]
        have hbx : EBox w (w1.alloc (.cells #[.string g, .int .i64 c, .slice fa fl fc, .bool any, .int .i64 till] 89)) w.heap.size g c fa fl fc any till := H1.out.below ((Below.refl _ _).alloc (Nat.le_refl _) _)
        have HEN : Hid _ := hent
        have HBX : Hid _ := hbx
        clear hent hbx
        go_wp2_with fail
        refine (join_any _ 1 1 _ _ HEN.out).mono ?_
        rintro e w3 hj
        rcases hj with ⟨hj1, rfl, hb3⟩ | ⟨acc, v3, hj1, rfl, hJ⟩
        · have H3 : Hid (EBox w w3 w.heap.size g c fa fl fc any till) := HBX.out.below hb3
          obtain ⟨u0, u1, u2, u3, u4⟩ := H3.out.cells
          have ul := lt_blk H3.out.blk
          have uf : ∀ o, w3.frozen? ⟨w.heap.size, o, none⟩ = false := fun o => by simp [World.frozen?, H3.out.blk]
          have HJ : Hid (joinE [] [(any, fs)] = none) := hj1
          clear hj1 hb3 y0 y1 y2 y3 y4
          go_wp2_with fail
          go_meet
          refine ⟨none, 0, 0, true, [], (⟨⟨box2_set H3.out.blk, below_set2 H3.out.bel (Nat.le_refl _) _ _⟩, cleanW_none HJ.out, ⟨rfl, .inl rfl⟩, by simp, fun b hb => by cases hb⟩ : EClean _ _ _ _ _ _ _ _ _ _ _ _)⟩
        · obtain ⟨a3, c3, hv3⟩ := hJ.shape
          subst hv3
          have H3 : Hid (EBox w w3 w.heap.size g c fa fl fc any till) := HBX.out.below hJ.bel
          obtain ⟨u0, u1, u2, u3, u4⟩ := H3.out.cells
          have ul := lt_blk H3.out.blk
          have uf : ∀ o, w3.frozen? ⟨w.heap.size, o, none⟩ = false := fun o => by simp [World.frozen?, H3.out.blk]
          have HJ : Hid (joinE [] [(any, fs)] = some acc) := hj1
          have HR : Hid _ := hJ
          clear hj1 hJ y0 y1 y2 y3 y4
          go_wp2_with fail
          go_meet
          have hsz := H1.out.bel.size
          have hz1 : w.heap.size < w1.heap.size := lt_blk H1.out.blk
          have hstr := strIn_own HR.out.row rfl
          have hnew : ∀ b, a3 = some b → w1.heap.size + 1 ≤ b.block ∧ b.block < w3.heap.size := fun b hb => by
            have := HR.out.row.lt b.block (by rw [hb]; rfl)
            simp at this
            exact ⟨by omega, this.2⟩
          refine ⟨a3, acc.length, c3, false, acc, (⟨⟨box2_set H3.out.blk, below_set2 H3.out.bel (Nat.le_refl _) _ _⟩, cleanW_some HJ.out, ?_, HR.out.le, fun b hb => ?_⟩ : EClean _ _ _ _ _ _ _ _ _ _ _ _)⟩
          · refine hstr.at (by simp [World.setCell]) (fun b hb => heap_set2 ?_ _ _)
            have := hnew b hb; omega
          · have := hnew b hb
            refine ⟨by omega, by simp [World.setCell]; omega, by omega⟩
      case rest =>
        obtain ⟨fa', fl', fc', any', fs', H2⟩ := hcut
        rename World => w2
        clear y0 y1 y2 y3 y4 zl xr rl1
        obtain ⟨y0, y1, y2, y3, y4⟩ := H2.out.box.cells
        have zl := lt_blk H2.out.box.blk
        have HT2 : Hid (Tb w2 B r (.slice a n cp) X) := HT.out.below H2.out.box.bel
        have xr := HT2.out.cell
        have rl2 := HT2.out.lt
        have hkey := (lb_hit (ByteArray.empty, (0 : Int)) linK _ HT.out.asc (g, c)).2 ((hasK_iff _ _).1 HS.out)
        rw [HK.out] at hkey
        have hkl : k < n := by have := hkey.1; rw [List.length_map, ← HN.out] at this; exact this
        have HKey : Hid ((X.map Ep.key).getD k (ByteArray.empty, 0) = (g, c)) := hkey.2
        clear hkey
        obtain ⟨gr, ha⟩ : ∃ gr, a = some ⟨gr, 0, none⟩ := by
          rcases HT.out.row.2 with ⟨_, q⟩ | ⟨gr, _, _, hv, _⟩
          · rw [← HN.out] at q; omega
          · simp only [Value.slice.injEq] at hv; exact ⟨gr, hv.1⟩
        subst ha
        have hrow : w2.ownsRow B 89 5 (.slice (some ⟨gr, 0, none⟩) n cp) n (X.flatMap Ep.cells) := by have := HT2.out.row; rw [← HN.out] at this; exact this
        obtain ⟨cur, hcur, hcs⟩ : ∃ cur, w2.heap[gr]? = some (.cells cur 89 (0, 0)) ∧ n * 5 ≤ cur.size := by
          rcases hrow.2 with ⟨q, _⟩ | ⟨gr', cap, cur, hv, _, hg, hnc, _, hcs, _⟩
          · cases q
          · simp only [Value.slice.injEq, Option.some.injEq, Addr.mk.injEq] at hv
            obtain ⟨⟨rfl, _⟩, _, rfl⟩ := hv
            exact ⟨cur, hg, by rw [hcs]; exact Nat.mul_le_mul_right _ hnc⟩
        have hgl := lt_blk hcur
        have f0 : ∀ j, w2.frozen? ⟨gr, j, none⟩ = false := fun j => by simp [World.frozen?, hcur]
        have e0 : ∀ j, j < 5 → (w2.cell? ⟨gr, k * 5 + j, none⟩).isSome = true := fun j hj => by
          have : k * 5 + j < cur.size := by omega
          simp [World.cell?, hcur, this]
        obtain ⟨o0, m0⟩ := Option.isSome_iff_exists.1 (e0 0 (by omega))
        obtain ⟨o1, m1⟩ := Option.isSome_iff_exists.1 (e0 1 (by omega))
        obtain ⟨o2, m2⟩ := Option.isSome_iff_exists.1 (e0 2 (by omega))
        obtain ⟨o3, m3⟩ := Option.isSome_iff_exists.1 (e0 3 (by omega))
        obtain ⟨o4, m4⟩ := Option.isSome_iff_exists.1 (e0 4 (by omega))
        simp only [Nat.add_zero] at m0
        have hne1 : gr ≠ r := fun e => HT2.out.ne (by rw [e]; rfl)
        have hne2 : gr ≠ w.heap.size := by
          have := (HT.out.row.lt gr rfl).2; omega
        have hk0 : (0 : Int) ≤ (k : Int) := Int.natCast_nonneg _
        have hk1 : (k : Int) < (n : Int) := by omega
        have HRow : Hid _ := hrow
        clear hrow hcur hcs e0
        go_wp2_with fail
        go_region
        all_goals
          go_wp2
          go_ret
          have hfx : FilOk w2 r (.slice (some ⟨gr, 0, none⟩) n cp) ⟨g, c, fa', fl', fc', any', till, fs'⟩ := ⟨H2.out.str, H2.out.le, fun b hb => ⟨(H2.out.new b hb).2.1, (by have := (H2.out.new b hb).1; intro e; omega), (by
            have h1 := (H2.out.new b hb).1
            have h2 := (HT.out.row.lt gr rfl).2
            simp [Value.ownBlock]; omega)⟩⟩
          have hset := Tb.set HT2.out HN.out hkl ⟨g, c, fa', fl', fc', any', till, fs'⟩ HKey.out.symm hfx
          have hpe : putE X ⟨g, c, fa', fl', fc', any', till, fs'⟩ = X.set k ⟨g, c, fa', fl', fc', any', till, fs'⟩ := by
            unfold putE; rw [show (Ep.mk g c fa' fl' fc' any' till fs').key = (g, c) from rfl, HS.out, HK.out]; rfl
          exact ⟨rfl, .slice (some ⟨gr, 0, none⟩) n cp, ⟨g, c, fa', fl', fc', any', till, fs'⟩, ⟨rfl, rfl, H2.out.is⟩, by rw [hpe]; exact hset.1, (KT.ofBelow H2.out.box.bel).trans hset.2, fun b hb => (H2.out.new b hb).1⟩
    · subst hh
      go_upto_region 4 with fail
      go_cut [] (fun wx => ∃ fa' fl' fc' any' fs', Hid (EClean w wx w.heap.size g c till (any, fs) fa' fl' fc' any' fs'))
      case first =>
        have hent : EntIn (w1.alloc (.cells #[.string g, .int .i64 c, .slice fa fl fc, .bool any, .int .i64 till] 89)) (some ⟨w1.heap.size, 0, none⟩) 1 [⟨g, c, fa, fl, fc, any, till, fs⟩] := by
          refine ⟨rfl, by omega, .inr ⟨w1.heap.size, 0, rfl, by simp, fun i hi => ?_⟩⟩
          obtain rfl : i = 0 := by omega
          refine ⟨⟨(HF.out.below (Nat.le_refl _) (H1.out.bel.trans ((Below.refl _ _).alloc (by exact H1.out.bel.size) _))), hfl⟩, fun j hj => ?_⟩
          have hbk := heap_alloc_new w1 (.cells #[.string g, .int .i64 c, .slice fa fl fc, .bool any, .int .i64 till] 89)
          simp only [World.cell?, hbk]
          simp [Ep.cells]
        have hbx : EBox w (w1.alloc (.cells #[.string g, .int .i64 c, .slice fa fl fc, .bool any, .int .i64 till] 89)) w.heap.size g c fa fl fc any till := H1.out.below ((Below.refl _ _).alloc (Nat.le_refl _) _)
        have HEN : Hid _ := hent
        have HBX : Hid _ := hbx
        clear hent hbx
        go_wp2_with fail
        refine (join_any _ 1 1 _ _ HEN.out).mono ?_
        rintro e w3 hj
        rcases hj with ⟨hj1, rfl, hb3⟩ | ⟨acc, v3, hj1, rfl, hJ⟩
        · have H3 : Hid (EBox w w3 w.heap.size g c fa fl fc any till) := HBX.out.below hb3
          obtain ⟨u0, u1, u2, u3, u4⟩ := H3.out.cells
          have ul := lt_blk H3.out.blk
          have uf : ∀ o, w3.frozen? ⟨w.heap.size, o, none⟩ = false := fun o => by simp [World.frozen?, H3.out.blk]
          have HJ : Hid (joinE [] [(any, fs)] = none) := hj1
          clear hj1 hb3 y0 y1 y2 y3 y4
          go_wp2_with fail
          go_meet
          refine ⟨none, 0, 0, true, [], (⟨⟨box2_set H3.out.blk, below_set2 H3.out.bel (Nat.le_refl _) _ _⟩, cleanW_none HJ.out, ⟨rfl, .inl rfl⟩, by simp, fun b hb => by cases hb⟩ : EClean _ _ _ _ _ _ _ _ _ _ _ _)⟩
        · obtain ⟨a3, c3, hv3⟩ := hJ.shape
          subst hv3
          have H3 : Hid (EBox w w3 w.heap.size g c fa fl fc any till) := HBX.out.below hJ.bel
          obtain ⟨u0, u1, u2, u3, u4⟩ := H3.out.cells
          have ul := lt_blk H3.out.blk
          have uf : ∀ o, w3.frozen? ⟨w.heap.size, o, none⟩ = false := fun o => by simp [World.frozen?, H3.out.blk]
          have HJ : Hid (joinE [] [(any, fs)] = some acc) := hj1
          have HR : Hid _ := hJ
          clear hj1 hJ y0 y1 y2 y3 y4
          go_wp2_with fail
          go_meet
          have hsz := H1.out.bel.size
          have hz1 : w.heap.size < w1.heap.size := lt_blk H1.out.blk
          have hstr := strIn_own HR.out.row rfl
          have hnew : ∀ b, a3 = some b → w1.heap.size + 1 ≤ b.block ∧ b.block < w3.heap.size := fun b hb => by
            have := HR.out.row.lt b.block (by rw [hb]; rfl)
            simp at this
            exact ⟨by omega, this.2⟩
          refine ⟨a3, acc.length, c3, false, acc, (⟨⟨box2_set H3.out.blk, below_set2 H3.out.bel (Nat.le_refl _) _ _⟩, cleanW_some HJ.out, ?_, HR.out.le, fun b hb => ?_⟩ : EClean _ _ _ _ _ _ _ _ _ _ _ _)⟩
          · refine hstr.at (by simp [World.setCell]) (fun b hb => heap_set2 ?_ _ _)
            have := hnew b hb; omega
          · have := hnew b hb
            refine ⟨by omega, by simp [World.setCell]; omega, by omega⟩
      case rest =>
        obtain ⟨fa', fl', fc', any', fs', H2⟩ := hcut
        rename World => w2
        clear y0 y1 y2 y3 y4 zl xr rl1
        obtain ⟨y0, y1, y2, y3, y4⟩ := H2.out.box.cells
        have zl := lt_blk H2.out.box.blk
        have HT2 : Hid (Tb w2 B r (.slice a n cp) X) := HT.out.below H2.out.box.bel
        have xr := HT2.out.cell
        have rl2 := HT2.out.lt
        have hnot : (g, c) ∉ X.map Ep.key := fun q => by have := (hasK_iff _ _).2 q; rw [HS.out] at this; cases this
        have HNot : Hid _ := hnot
        have hkl : k ≤ n := by rw [← HK.out, HN.out]; have := lb_le (lt := ltK) (X.map Ep.key) (g, c); simpa using this
        have hfx : FilOk w2 r (.slice a n cp) ⟨g, c, fa', fl', fc', any', till, fs'⟩ := ⟨H2.out.str, H2.out.le, fun b hb => ⟨(H2.out.new b hb).2.1, (by have := (H2.out.new b hb).1; intro e; omega), (fun e => by
          have h1 := (H2.out.new b hb).1
          have h2 := (HT.out.row.lt _ e).2
          omega)⟩⟩
        have HFX : Hid _ := hfx
        have hins := insEnt_any B (.slice a n cp) n k (X.flatMap Ep.cells) (Ep.cells ⟨g, c, fa', fl', fc', any', till, fs'⟩) w2.heap.size (w2.drew.alloc (.cells #[.string g, .int .i64 c, .slice fa' fl' fc', .bool any', .int .i64 till] 89))
          (row_atJ (by have := HT2.out.row; rw [← HN.out] at this; exact this) (fun b hb => Below.heap_alloc w2.drew _ _ (HT2.out.row.lt b hb).2)) hkl (by omega)
          (fun v hv => by
            obtain ⟨y, _, hy⟩ := List.mem_flatMap.1 hv
            simp only [Ep.cells, List.mem_cons, List.not_mem_nil, or_false] at hy
            rcases hy with rfl | rfl | rfl | rfl | rfl <;> rfl)
          (heap_alloc_new w2.drew _) (fun e => by have := (HT2.out.row.lt _ e).2; omega) rfl
          (fun v hv => by
            simp only [Ep.cells, List.mem_cons, List.not_mem_nil, or_false] at hv
            rcases hv with rfl | rfl | rfl | rfl | rfl <;> rfl) (by have := H2.out.box.bel.size; simp; omega)
        have HI : Hid _ := hins
        have HBW : Hid (Below w2.heap.size w2 (w2.drew.alloc (.cells #[.string g, .int .i64 c, .slice fa' fl' fc', .bool any', .int .i64 till] 89))) := ⟨rfl, rfl, rfl, by simp, fun b hb => Below.heap_alloc w2.drew _ b hb⟩
        clear hnot hfx hins
        go_wp2_with fail
        go_region_law
          (first
            | (go_simp; go_at_call 167; refine Calls.mono HI.out ?_; rintro e w3 ⟨v3, rfl, ha3⟩
               have hbx3 : w3.heap[r]? = some (.cells #[.slice a n cp] 200 (0, 0)) := (ha3.grown.block r (by simp; omega) (fun e => HT2.out.ne e.symm)).trans ((HBW.out.block r rl2).trans HT2.out.box)
               have hc3 : w3.cell? ⟨r, 0, none⟩ = some (.slice a n cp) := by simp [World.cell?, hbx3]
               have hf3 : w3.frozen? ⟨r, 0, none⟩ = false := by simp [World.frozen?, hbx3]
               have hl3 := lt_blk hbx3
               obtain ⟨a3, c3, hv3⟩ := ha3.shape
               subst hv3
               have HA : Hid _ := ha3
               clear ha3 hbx3))
        all_goals
          go_wp2
          go_ret
          have hin := Tb.ins HT2.out HBW.out ⟨g, c, fa', fl', fc', any', till, fs'⟩ HK.out.symm HNot.out HFX.out (by rw [← HN.out]; omega) (by rw [← HN.out]; exact HA.out)
          have hpe : putE X ⟨g, c, fa', fl', fc', any', till, fs'⟩ = X.take k ++ [⟨g, c, fa', fl', fc', any', till, fs'⟩] ++ X.drop k := by
            unfold putE; rw [show (Ep.mk g c fa' fl' fc' any' till fs').key = (g, c) from rfl, HS.out, HK.out]; rfl
          exact ⟨rfl, _, ⟨g, c, fa', fl', fc', any', till, fs'⟩, ⟨rfl, rfl, H2.out.is⟩, by rw [hpe]; exact hin.1, (KT.ofBelow H2.out.box.bel).trans hin.2, fun b hb => (H2.out.new b hb).1⟩
end Go.Proofs.YtmajlldfiiokoaaGreatDoor

/- table.Children, Len. -/
namespace Go.Proofs.YtmajlldfiiokoaaGreatDoor
open Go.ChangeShapes Go.WideShapes Go.ChangeAt Go.RowKit
set_option linter.unusedVariables false

theorem clone_s (a : Option Addr) (len c : Nat) (L : List ByteArray) (w : World) (h : StrIn w a len L) (hl : len ≤ 100000) :
    Calls Tryz.prog 154 #[.slice a len c] w fun e w' => ∃ a' c', e = .returned (.slice a' len c') ∧ StrIn w' a' len L ∧ Below w.heap.size w w' ∧ ∀ b, a' = some b → w.heap.size ≤ b.block ∧ b.block < w'.heap.size := by
  cases a with
  | none =>
    have h0 : len = 0 := by
      rcases h.2 with q | ⟨b, o, q, _⟩
      · exact q
      · cases q
    subst h0
    refine (Tryz.slices_Clone_string_nil 0 c w).mono ?_
    rintro e w' ⟨rfl, rfl⟩
    exact ⟨none, 0, rfl, h, Below.refl _ _, fun b hb => by cases hb⟩
  | some ad =>
    have hsh : ∀ {w' : World} {v' : Value} {n : Nat} {xs : List Value}, w'.ownsRow w.heap.size 9 1 v' n xs → ∃ a' c', v' = .slice a' n c' ∧ ∀ b, a' = some b → w.heap.size ≤ b.block ∧ b.block < w'.heap.size := fun {w' v' n xs} hr => by
      rcases hr.2 with ⟨h1, h2⟩ | ⟨g, cap, cur, h1, h2, h3, _⟩
      · exact ⟨none, 0, by rw [h1, h2], fun b hb => by cases hb⟩
      · exact ⟨_, cap, h1, fun b hb => by cases hb; exact ⟨h2, lt_blk h3⟩⟩
    rcases h.2 with h0 | ⟨b, o, ha, hlt, hc⟩
    · subst h0
      have hL : L = [] := List.eq_nil_of_length_eq_zero h.1
      refine (Tryz.slices_Clone_string_zero ad c w).mono ?_
      rintro e w' ⟨v', rfl, hr, _, hb⟩
      obtain ⟨a', c', rfl, hn⟩ := hsh hr
      exact ⟨a', c', rfl, ⟨h.1, .inl rfl⟩, hb, hn⟩
    · cases ha
      have hln := h.1
      refine (Tryz.slices_Clone_string b o len c L w (by omega) (by omega) (fun j hj => hc j (by omega))).mono ?_
      rintro e w' ⟨v', rfl, hr, _, hb⟩
      obtain ⟨a', c', rfl, hn⟩ := hsh hr
      rw [List.take_of_length_le (by omega)] at hr
      exact ⟨a', c', rfl, strIn_own hr hln.symm, hb, hn⟩

/-- What an entry says. -/
structure Core where
  gr : ByteArray
  ch : Int
  any : Bool
  till : Int
  fs : List ByteArray
def Ep.core (x : Ep) : Core := ⟨x.gr, x.ch, x.any, x.till, x.fs⟩
/-- Entries in a row of one's own, and nothing of before has turned. -/
structure ERow (w0 w : World) (v : Value) (Y : List Ep) : Prop where
  row : w.ownsRow w0.heap.size 89 5 v Y.length (Y.flatMap Ep.cells)
  fil : ∀ y ∈ Y, StrIn w y.a y.ln y.fs ∧ y.ln ≤ 100000 ∧ ∀ b, y.a = some b → b.block < w.heap.size ∧ v.ownBlock ≠ some b.block
  bel : Below w0.heap.size w0 w
theorem ERow.below {w0 w w' : World} {v : Value} {Y : List Ep} (h : ERow w0 w v Y) (hb : Below w.heap.size w w') : ERow w0 w' v Y :=
  ⟨row_atJ h.row (fun k hk => hb.block k (h.row.lt k hk).2), fun y hy => ⟨(h.fil y hy).1.below (Nat.le_refl _) hb, (h.fil y hy).2.1, fun b hx => ⟨Nat.lt_of_lt_of_le ((h.fil y hy).2.2 b hx).1 hb.size, ((h.fil y hy).2.2 b hx).2⟩⟩, h.bel.trans (hb.mono h.bel.size)⟩
theorem ERow.nil {w0 w : World} (h : Below w0.heap.size w0 w) : ERow w0 w (.slice none 0 0) [] := ⟨World.ownsRow_nil _ _ _ _, (fun y hy => by cases hy), h⟩
theorem ERow.app {w0 w w2 : World} {v v' : Value} {Y : List Ep} {x : Ep} (h : ERow w0 w v Y) (hx : StrIn w x.a x.ln x.fs) (hl : x.ln ≤ 100000) (hc : ∀ b, x.a = some b → b.block < w.heap.size ∧ v.ownBlock ≠ some b.block)
    (ha : Appended5 w0.heap.size 89 w w2 v v' (Y.length + 1) (Y.flatMap Ep.cells ++ x.cells)) : ERow w0 w2 v' (Y ++ [x]) := by
  have hg := ha.grown
  have hfar : ∀ y : Ep, (StrIn w y.a y.ln y.fs ∧ y.ln ≤ 100000 ∧ ∀ b, y.a = some b → b.block < w.heap.size ∧ v.ownBlock ≠ some b.block) → StrIn w2 y.a y.ln y.fs ∧ y.ln ≤ 100000 ∧ ∀ b, y.a = some b → b.block < w2.heap.size ∧ v'.ownBlock ≠ some b.block := fun y hy =>
    ⟨hy.1.at hg.size (fun b hb => hg.block _ (hy.2.2 b hb).1 (fun e => (hy.2.2 b hb).2 e.symm)), hy.2.1, fun b hb => ⟨Nat.lt_of_lt_of_le (hy.2.2 b hb).1 hg.size, fun e => by
      rcases ha.new _ e with q | q
      · exact (hy.2.2 b hb).2 q
      · have := (hy.2.2 b hb).1; omega⟩⟩
  refine ⟨?_, fun y hy => ?_, h.bel.trans ⟨hg.os, hg.tape, hg.output, hg.size, fun k hk => hg.block k (Nat.lt_of_lt_of_le hk h.bel.size) (fun e => by have := (h.row.lt k e.symm).1; omega)⟩⟩
  · have := ha.row; simpa using this
  · rcases List.mem_append.1 hy with q | q
    · exact hfar y (h.fil y q)
    · rw [List.mem_singleton.1 q]; exact hfar x ⟨hx, hl, hc⟩
theorem ERow.shape {w0 w : World} {v : Value} {Y : List Ep} (h : ERow w0 w v Y) : ∃ a c, v = .slice a Y.length c := by
  rcases h.row.2 with ⟨rfl, h2⟩ | ⟨gg, c, cur, hv, _⟩
  · exact ⟨none, 0, by rw [h2]⟩
  · exact ⟨_, c, hv⟩
theorem ERow.ent {w0 w : World} {a : Option Addr} {c : Nat} {Y : List Ep} (h : ERow w0 w (.slice a Y.length c) Y) (hl : Y.length ≤ 100000) : EntIn w a Y.length Y := by
  refine ⟨rfl, hl, ?_⟩
  rcases h.row.2 with ⟨_, h0⟩ | ⟨g, cap, cur, hv, _, hg, _⟩
  · exact .inl h0
  · have hc := h.row.cells (g := g) (by rw [hv]; rfl)
    simp only [Value.slice.injEq] at hv
    refine .inr ⟨g, 0, hv.1, lt_blk hg, fun i hi => ⟨⟨(h.fil _ (getD_memL ep0 Y i hi)).1, (h.fil _ (getD_memL ep0 Y i hi)).2.1⟩, fun j hj => ?_⟩⟩
    have hx := flat_get Ep.cells 5 Ep.cells_len ep0 Y i j hi hj
    have hj' : j < (Y.getD i ep0).cells.length := hj
    have e := hc (i * 5 + j) ((Y.getD i ep0).cells[j]) (by rw [hx, List.getElem?_eq_getElem hj'])
    rw [Addr.add_lit] at e
    rw [Nat.add_assoc, e, List.getElem?_eq_getElem hj']
theorem srcE (w : World) (x : Ep) (z : Nat) (hz : z = w.heap.size) :
    Src Tryz.prog 5 87 (.slice (some ⟨z, 0, none⟩) 1 1) 1 x.cells (w.alloc (.cells #[.string x.gr, .int .i64 x.ch, .slice x.a x.ln x.cp, .bool x.any, .int .i64 x.till] 89)) := by
  subst hz
  exact srcEnt _ x.cells w.heap.size (heap_alloc_new w _) rfl (fun v hv => by
    simp only [Ep.cells, List.mem_cons, List.not_mem_nil, or_false] at hv
    rcases hv with rfl | rfl | rfl | rfl | rfl <;> rfl)
theorem filter_take_succ (p : Ep → Bool) (X : List Ep) (i : Nat) (hi : i < X.length) : (X.take (i + 1)).filter p = (X.take i).filter p ++ (if p (X.getD i ep0) then [X.getD i ep0] else []) := by
  rw [List.take_succ_eq_append_getElem hi, List.filter_append, getD_getElemL ep0 X i hi]
  by_cases h : p X[i] = true <;> simp [h]
end Go.Proofs.YtmajlldfiiokoaaGreatDoor

/- table.Children, walked; the document's Texts. -/
namespace Go.Proofs.YtmajlldfiiokoaaGreatDoor
open Go.ChangeShapes Go.WideShapes Go.ChangeAt Go.RowKit
set_option linter.unusedVariables false

def ofG (g : ByteArray) (x : Ep) : Bool := x.gr.toList == g.toList
theorem fil_snoc {Y Z : List Ep} {x y : Ep} (h : Y.map Ep.core = Z.map Ep.core) (hxy : y.core = x.core) : (Y ++ [y]).map Ep.core = (Z ++ [x]).map Ep.core := by simp [h, hxy]

set_option maxRecDepth 100000 in
set_option maxHeartbeats 4000000 in
theorem children_any (B r : Nat) (v : Value) (X : List Ep) (g : ByteArray) (w : World) (h : Tb w B r v X) :
    Calls Tryz.prog 104 #[.pointer (some ⟨r, 0, none⟩), .string g] w fun e w' => ∃ v' Y, e = .returned v' ∧ ERow w w' v' Y ∧ Y.map Ep.core = (X.filter (ofG g)).map Ep.core := by
  obtain ⟨i0, hi, hz0, hz1, hz2⟩ := infoEnt_parts
  obtain ⟨a, cp, hv⟩ := h.shape
  subst hv
  have hle := h.le
  obtain ⟨n, hn⟩ : ∃ n, n = X.length := ⟨_, rfl⟩
  rw [← hn] at h hle
  have HN : Hid (n = X.length) := hn
  have hent : EntIn w a n X := by rw [hn]; exact Tb.ent (by rw [← hn]; exact h)
  have HE : Hid (EntIn w a n X) := hent
  have HT : Hid _ := h
  have x0 := h.cell
  have xl := h.lt
  clear h hent hn
  go_enter Tryz.func104, Tryz.ntmps104
  go_wp2
  go_loopg [5, 13] n (fun kx s5 s13 wr => ∃ (i m c : Nat) (av : Option Addr) (Y : List Ep), s13 = .int .i64 i ∧ i ≤ n ∧ kx = n - i ∧ s5 = .slice av m c ∧ m ≤ i ∧ Hid (m = Y.length ∧ ERow w wr (.slice av m c) Y ∧ Y.map Ep.core = ((X.take i).filter (ofG g)).map Ep.core))
  case atStart => exact ⟨0, 0, 0, none, [], rfl, Nat.zero_le _, rfl, rfl, Nat.le_refl _, (⟨rfl, ERow.nil (Below.refl _ _), rfl⟩ : 0 = List.length _ ∧ ERow _ _ _ _ ∧ _)⟩
  case round =>
    obtain ⟨i, m, c, av, Y, rfl, hin, rfl, rfl, hmi, H⟩ := hrel
    by_cases hlt : i < n
    · obtain ⟨b, o, ha, hb, hs, hln, c0, c1, c2, c3, c4⟩ := (HE.out.below H.out.2.1.bel).at hlt
      subst ha
      have hft := filter_take_succ (ofG g) X i (by rw [← HN.out]; exact hlt)
      obtain ⟨x, hx⟩ : ∃ x, x = X.getD i ep0 := ⟨_, rfl⟩
      rw [← hx] at hs hln c0 c1 c2 c3 c4 hft
      clear hx
      obtain ⟨gr, ch, fa, fl, fc, any, till, fs⟩ := x
      simp only at hs hln c0 c1 c2 c3 c4
      have hi0 : (0 : Int) ≤ (i : Int) := Int.natCast_nonneg _
      have hi1 : (i : Int) < (n : Int) := by omega
      obtain ⟨w1, hw1⟩ : ∃ w1, w1 = wr.alloc (.cells #[.string gr, .int .i64 ch, .slice fa fl fc, .bool any, .int .i64 till] 89) := ⟨_, rfl⟩
      have hbx1 : w1.heap[wr.heap.size]? = some (.cells #[.string gr, .int .i64 ch, .slice fa fl fc, .bool any, .int .i64 till] 89 (0, 0)) := by rw [hw1]; exact heap_alloc_new wr _
      have b01 : Below wr.heap.size wr w1 := by rw [hw1]; exact (Below.refl _ _).alloc (Nat.le_refl _) _
      have HR0 : Hid (m = Y.length ∧ ERow w wr (.slice av m c) Y) := ⟨H.out.1, H.out.2.1⟩
      have HY : Hid (Y.map Ep.core = ((X.take i).filter (ofG g)).map Ep.core) := H.out.2.2
      have HS1 : Hid (StrIn w1 fa fl fs) := hs.below (Nat.le_refl _) b01
      clear hs H
      by_cases hg : gr.toList = g.toList
      · have hg' : (gr.toList == g.toList) = true := by simpa using hg
        have HF : Hid ((X.take (i + 1)).filter (ofG g) = (X.take i).filter (ofG g) ++ [⟨gr, ch, fa, fl, fc, any, till, fs⟩]) := by
          show _ = _
          rw [hft]; simp [ofG, hg]
        clear hft
        have hz1' : wr.heap.size < w1.heap.size := lt_blk hbx1
        go_wp2_with fail
        rw [← hw1]
        clear hw1 c0 c1 c2 c3 c4
        refine (clone_s fa fl fc fs w1 HS1.out hln).mono ?_
        rintro e w2 ⟨a2, c2, rfl, hs2, b12, hnew⟩
        have hbx2 : w2.heap[wr.heap.size]? = some (.cells #[.string gr, .int .i64 ch, .slice fa fl fc, .bool any, .int .i64 till] 89 (0, 0)) := (b12.block _ hz1').trans hbx1
        have d0 : w2.cell? ⟨wr.heap.size, 0, none⟩ = some (.string gr) := by simp [World.cell?, hbx2]
        have d1 : w2.cell? ⟨wr.heap.size, 1, none⟩ = some (.int .i64 ch) := by simp [World.cell?, hbx2]
        have d2 : w2.cell? ⟨wr.heap.size, 2, none⟩ = some (.slice fa fl fc) := by simp [World.cell?, hbx2]
        have d3 : w2.cell? ⟨wr.heap.size, 3, none⟩ = some (.bool any) := by simp [World.cell?, hbx2]
        have d4 : w2.cell? ⟨wr.heap.size, 4, none⟩ = some (.int .i64 till) := by simp [World.cell?, hbx2]
        have df : ∀ o, w2.frozen? ⟨wr.heap.size, o, none⟩ = false := fun o => by simp [World.frozen?, hbx2]
        have dl := lt_blk hbx2
        obtain ⟨w3, hw3⟩ : ∃ w3, w3 = w2.setCell ⟨wr.heap.size, 2, none⟩ (.slice a2 fl c2) := ⟨_, rfl⟩
        have b02 : Below wr.heap.size wr w3 := by rw [hw3]; exact (b01.trans (b12.mono (by omega))).setCell (p := ⟨wr.heap.size, 2, none⟩) (Nat.le_refl _) _
        have hR3 : ERow w (w3.alloc (.cells #[.string gr, .int .i64 ch, .slice a2 fl c2, .bool any, .int .i64 till] 89)) (.slice av m c) Y := HR0.out.2.below (b02.alloc b02.size _)
        have hz3 : w3.heap.size = w2.heap.size := by rw [hw3]; simp [World.setCell]
        have hs3 : StrIn (w3.alloc (.cells #[.string gr, .int .i64 ch, .slice a2 fl c2, .bool any, .int .i64 till] 89)) a2 fl fs := hs2.at (by simp; omega) (fun b hb => by
          rw [Below.heap_alloc _ _ _ (by rw [hz3]; exact (hnew b hb).2), hw3]
          exact setCell_heap (by have := (hnew b hb).1; omega) _)
        have HX : Hid (ERow w (w3.alloc (.cells #[.string gr, .int .i64 ch, .slice a2 fl c2, .bool any, .int .i64 till] 89)) (.slice av m c) Y ∧ StrIn (w3.alloc (.cells #[.string gr, .int .i64 ch, .slice a2 fl c2, .bool any, .int .i64 till] 89)) a2 fl fs ∧ ∀ b, a2 = some b → b.block < (w3.alloc (.cells #[.string gr, .int .i64 ch, .slice a2 fl c2, .bool any, .int .i64 till] 89)).heap.size ∧ (Value.slice av m c).ownBlock ≠ some b.block) := ⟨hR3, hs3, fun b hb => ⟨by have := (hnew b hb).2; simp; omega, fun e => by have h1 := (HR0.out.2.row.lt _ e).2; have h2 := (hnew b hb).1; omega⟩⟩
        have HB2 : Hid _ := b02
        have HW3 : Hid (w2.setCell ⟨wr.heap.size, 2, none⟩ (.slice a2 fl c2) = w3) := hw3.symm
        have hrow : (w3.alloc (.cells #[.string gr, .int .i64 ch, .slice a2 fl c2, .bool any, .int .i64 till] 89)).ownsRow w.heap.size 89 5 (.slice av m c) m (Y.flatMap Ep.cells) := by have := hR3.row; rw [← HR0.out.1] at this; exact this
        have HRow : Hid _ := hrow
        have hws : w.heap.size ≤ w3.heap.size := Nat.le_trans HR0.out.2.bel.size b02.size
        have HSRC : Hid _ := srcE w3 ⟨gr, ch, a2, fl, c2, any, till, fs⟩ w3.heap.size rfl
        simp only at HSRC
        rw [hz3] at HSRC
        clear hbx1 hbx2 hs2 b12 hnew hR3 hs3 b01 b02 hw3 hrow
        go_wp2_with (at_builtin; rw [HW3.out]; refine wpList_own_append5 _ rfl _ _ 87 87 rfl w.heap.size 89 i0 _ 64 Tryz.underlying87 hi hz0 hz1 hz2 rfl _ m (Y.flatMap Ep.cells) rfl HRow.out _ 1 (Ep.cells ⟨gr, ch, a2, fl, c2, any, till, fs⟩) rfl HSRC.out ?c3 ?c4 ?c5 ?_)
        case c3 => unfold maxLen; omega
        case c4 => omega
        case c5 => simp; omega
        intro v4 w4 ha4
        have hR4 := HX.out.1.app (x := ⟨gr, ch, a2, fl, c2, any, till, fs⟩) HX.out.2.1 hln HX.out.2.2 (by rw [← HR0.out.1]; exact ha4)
        obtain ⟨a4, c4, hv4⟩ := ha4.shape
        subst hv4
        have H4 : Hid (m + 1 = (Y ++ [(⟨gr, ch, a2, fl, c2, any, till, fs⟩ : Ep)]).length ∧ ERow w w4 (.slice a4 (m + 1) c4) (Y ++ [⟨gr, ch, a2, fl, c2, any, till, fs⟩]) ∧ (Y ++ [(⟨gr, ch, a2, fl, c2, any, till, fs⟩ : Ep)]).map Ep.core = ((X.take (i + 1)).filter (ofG g)).map Ep.core) := ⟨by simp [HR0.out.1], hR4, by rw [HF.out]; exact fil_snoc HY.out rfl⟩
        clear ha4 hR4
        go_wp2
        go_roundg (n - (i + 1))
        case measure => omega
        case rel => exact ⟨i + 1, m + 1, c4, a4, _, by go_num, by omega, rfl, rfl, by omega, H4⟩
      · have hg' : (gr.toList == g.toList) = false := by simpa using hg
        have HF : Hid ((X.take (i + 1)).filter (ofG g) = (X.take i).filter (ofG g)) := by
          show _ = _
          rw [hft]; simp [ofG, hg]
        have H4 : Hid (m = Y.length ∧ ERow w w1 (.slice av m c) Y ∧ Y.map Ep.core = ((X.take (i + 1)).filter (ofG g)).map Ep.core) := ⟨HR0.out.1, HR0.out.2.below b01, by rw [HF.out]; exact HY.out⟩
        rw [hw1] at H4
        clear hft hbx1 b01 HS1 hw1
        go_wp2
        go_roundg (n - (i + 1))
        case measure => omega
        case rel => exact ⟨i + 1, m, c, av, Y, by go_num, by omega, rfl, rfl, by omega, H4⟩
    · have hi1 : ¬ (i : Int) < (n : Int) := by omega
      have HF : Hid (Y.map Ep.core = (X.filter (ofG g)).map Ep.core) := by
        show _ = _
        rw [H.out.2.2, List.take_of_length_le (by rw [← HN.out]; omega)]
      go_wp2
      go_ret
      exact ⟨_, rfl, Y, H.out.2.1, HF.out⟩

end Go.Proofs.YtmajlldfiiokoaaGreatDoor
