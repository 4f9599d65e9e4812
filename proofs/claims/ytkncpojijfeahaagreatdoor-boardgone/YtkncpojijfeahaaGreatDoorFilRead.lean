/- filter.Read of any text, and the document's reader beside it; wigwagref06.Bytes. -/
import Derived.Test.YtkncpojijfeahaaGreatDoorFilRdM
import Derived.Test.YtkncpojijfeahaaGreatDoorFilSch
import Derived.Test.YtkncpojijfeahaaGreatDoorJoinAsFault
namespace Go.Proofs.YtkncpojijfeahaaGreatDoor
open Go.ChangeShapes Go.WideShapes Go.ChangeAt Go.RowKit
set_option linter.unusedVariables false

theorem plin_nil (w : World) (c : Nat) : PlIn w (.slice none 0 0) [] := ⟨none, 0, rfl, fun h => by simp at h⟩
/-- What the two readers answer of one text; what they read can be printed. -/
def TwoQ (s : ByteArray) (ps : List Pl) (cd pl : Int) : Prop :=
    (∀ W, Env W → Calls Tryz.prog 46 #[.string s] W fun e w' => ∃ v er, e = .returned (.tuple #[v, er]) ∧ PlIn w' v ps ∧ ((er = .nilIface ∧ cd = 0) ∨ (¬ cd = 0 ∧ ∃ N, er = .iface 129 (.pointer (some ⟨N, 0, none⟩)) ∧ FaultAt w' N pl cd)) ∧ Below W.heap.size W w') ∧
    (∀ W, Calls Tryz.prog 56 #[.string s] W fun e w' => ∃ v, e = .returned (.tuple #[v, .int .i64 cd, .int .i64 pl]) ∧ PlIn w' v ps ∧ Below W.heap.size W w')
theorem two_q (s : ByteArray) (hs : s.size ≤ 1000) : ∃ (ps : List Pl) (cd pl : Int), ps.length ≤ 1000 ∧ (∀ p ∈ ps, PrnL p) ∧ TwoQ s ps cd pl := by
  have hm : s.size ≤ maxLen := by unfold maxLen; omega
  have hsl : s.data.toList.length ≤ 1000 := by simpa using hs
  by_cases hl : 300 < s.size
  · refine ⟨[], 1, 0, by simp, by simp, fun W E => ?_, fun W => ?_⟩
    · refine (parse_any s W E hm).mono ?_
      rintro e w' ⟨hA, hb⟩
      unfold ParsAns at hA
      rw [if_pos hl] at hA
      obtain ⟨N, rfl, hF⟩ := hA
      exact ⟨_, _, rfl, plin_nil _ 0, Or.inr ⟨by omega, N, rfl, hF⟩, hb⟩
    · refine (rparse_any s W hm).mono ?_
      rintro e w' ⟨hA, hb⟩
      unfold RParsAns at hA
      rw [if_pos hl] at hA
      exact ⟨_, hA, plin_nil _ 0, hb⟩
  · cases hp : pars s.data.toList with
    | fail b r =>
      refine ⟨[], 2, ((s.size - r.length : Nat) : Int), by simp, by simp, fun W E => ?_, fun W => ?_⟩
      · refine (parse_any s W E hm).mono ?_
        rintro e w' ⟨hA, hb⟩
        obtain ⟨N, rfl, hF⟩ := hA.fail hl hp
        exact ⟨_, _, rfl, plin_nil _ 0, Or.inr ⟨by omega, N, rfl, hF⟩, hb⟩
      · refine (rparse_any s W hm).mono ?_
        rintro e w' ⟨hA, hb⟩
        unfold RParsAns at hA
        rw [if_neg hl, hp] at hA
        exact ⟨_, hA, plin_nil _ 0, hb⟩
    | ok ps r =>
      have hn : ps.length ≤ 1000 := by
        have h1 : ∀ n acc l qs r, rFil n acc l = .ok qs r → qs.length ≤ acc.length + n := by
          intro n
          induction n with
          | zero => intro acc l qs r h; unfold rFil at h; cases h
          | succ n ih =>
            intro acc l qs r h
            unfold rFil at h
            split at h
            · cases h
            · split at h
              · cases h; simp
              · cases h
              · have := ih _ _ _ _ h; simp at this; omega
        have h2 := h1 _ _ _ _ _ (show rFil (s.data.toList.length + 1) [] s.data.toList = .ok ps r from hp)
        simp at h2; omega
      refine ⟨ps, 0, 0, hn, pars_prn hp hsl, fun W E => ?_, fun W => ?_⟩
      · refine (parse_any s W E hm).mono ?_
        rintro e w' ⟨hA, hb⟩
        obtain ⟨v, rfl, hrow⟩ := hA.ok hl hp
        exact ⟨_, _, rfl, PlIn.ofOwn hrow, Or.inl ⟨rfl, rfl⟩, hb⟩
      · refine (rparse_any s W hm).mono ?_
        rintro e w' ⟨hA, hb⟩
        unfold RParsAns at hA
        rw [if_neg hl, hp] at hA
        obtain ⟨v, rfl, hrow⟩ := hA
        exact ⟨_, rfl, PlIn.ofOwn hrow, hb⟩
theorem pl_str {ps : List Pl} (hp : ∀ p ∈ ps, PrnL p) : ∀ i, i < (ps.map pdOf).length → ((ps.map pdOf).getD i pd0).str.size ≤ maxLen := fun i hi => by
  rw [List.length_map] at hi
  rw [pdOf_getD ps i hi]
  have e : ps.getD i pl0 = ps[i] := by simp [hi]
  have h := (hp _ (List.getElem_mem hi)).sl
  rw [e]
  show (ba ps[i].str).size ≤ maxLen
  rw [ba_size]; unfold maxLen; omega
/-- A fault of filter's around a fault of value's. -/
def FaultIn (w : World) (N : Nat) : Prop :=
  ∃ (M : Nat) (a b : Int), w.heap[N]? = some (.cells #[.string ⟨#[102, 105, 108, 116, 101, 114]⟩, .int .i64 a, .iface 129 (.pointer (some ⟨M, 0, none⟩))] 131 (0, 0)) ∧
    w.heap[M]? = some (.cells #[.string ⟨#[118, 97, 108, 117, 101]⟩, .int .i64 b, .iface 52 (.int .i64 3)] 131 (0, 0))
theorem FaultIn.below {w w' : World} {N : Nat} (h : FaultIn w N) (hb : Below w.heap.size w w') : FaultIn w' N := by
  obtain ⟨M, a, b, h1, h2⟩ := h
  exact ⟨M, a, b, (hb.block N (lt_of_block h1)).trans h1, (hb.block M (lt_of_block h2)).trans h2⟩
/-- What filter.Read answers. -/
def ReadAns (w' : World) (u er : Value) (az : List At) (ps : List Pl) (cd pl : Int) : Prop :=
  (¬ cd = 0 ∧ u = .slice none 0 0 ∧ ∃ N, er = .iface 129 (.pointer (some ⟨N, 0, none⟩)) ∧ FaultAt w' N pl cd) ∨
  (cd = 0 ∧ ¬ FilterOk az (ps.map pdOf) ∧ u = .slice none 0 0 ∧ ∃ N, er = .iface 129 (.pointer (some ⟨N, 0, none⟩)) ∧ FaultIn w' N) ∨
  (cd = 0 ∧ FilterOk az (ps.map pdOf) ∧ er = .nilIface ∧ PlIn w' u ps)

set_option maxRecDepth 100000 in
set_option maxHeartbeats 1000000 in
theorem read_any (v : Value) (az : List At) (s : ByteArray) (ps : List Pl) (cd pl : Int) (W : World) (E : Env W) (hA : AtIn W v az) (hal : az.length ≤ 1000) (hn : ps.length ≤ 1000) (hp : ∀ p ∈ ps, PrnL p) (hT : TwoQ s ps cd pl) :
    Calls Tryz.prog 24 #[v, .string s] W fun e w' => ∃ u er, e = .returned (.tuple #[u, er]) ∧ ReadAns w' u er az ps cd pl ∧ Below W.heap.size W w' := by
  have HT : Hid _ := hT.1 W E
  have HA : Hid (AtIn W v az ∧ az.length ≤ 1000 ∧ (ps.map pdOf).length ≤ 1000) := ⟨hA, hal, by rw [List.length_map]; exact hn⟩
  have HS : Hid _ := pl_str hp
  clear hT E hA hal hn hp
  go_enter Tryz.func24, Tryz.ntmps24
  go_wp2_with fail
  refine Calls.mono HT.out ?_
  rintro e W1 ⟨u, er, rfl, hP, her, b1⟩
  have HP1 : Hid (PlIn W1 u ps ∧ Below W.heap.size W W1) := ⟨hP, b1⟩
  clear HT hP b1
  rcases her with ⟨rfl, h0⟩ | ⟨h0, N, rfl, hF⟩
  · have HC : Hid (cd = 0) := h0
    clear h0
    go_wp2_with fail
    refine Calls.mono (filter_any v u az (ps.map pdOf) W1 (HA.out.1.below HP1.out.2) (PdIn.ofPl HP1.out.1) HA.out.2.1 HA.out.2.2 HS.out) ?_
    rintro e W2 ⟨hE, b2⟩
    have HP2 : Hid (PlIn W2 u ps ∧ Below W.heap.size W W2) := ⟨HP1.out.1.below b2, HP1.out.2.trans (b2.mono HP1.out.2.size)⟩
    clear b2 HP1
    rcases hE with ⟨rfl, hOK⟩ | ⟨b, n, rfl, hno, hbl⟩
    · have HOK : Hid (FilterOk az (ps.map pdOf)) := hOK
      clear hOK
      go_wp2
      go_ret2
      exact ⟨_, _, rfl, Or.inr (Or.inr ⟨HC.out, HOK.out, rfl, HP2.out.1⟩), HP2.out.2⟩
    · have HNO : Hid (¬ FilterOk az (ps.map pdOf)) := hno
      have HBL : Hid (W2.heap[b]? = _) := hbl
      clear hno hbl
      go_wp2
      go_ret2
      exact ⟨_, _, rfl, Or.inr (Or.inl ⟨HC.out, HNO.out, rfl, _, rfl, b, _, n, heap_alloc_new W2 _, (Below.heap_alloc W2 _ b (lt_of_block HBL.out)).trans HBL.out⟩), HP2.out.2.alloc HP2.out.2.size _⟩
  · have HF : Hid (¬ cd = 0 ∧ FaultAt W1 N pl cd) := ⟨h0, hF⟩
    clear h0 hF
    go_wp2
    go_ret2
    exact ⟨_, _, rfl, Or.inl ⟨HF.out.1, rfl, N, rfl, HF.out.2⟩, HP1.out.2⟩
end Go.Proofs.YtkncpojijfeahaaGreatDoor
