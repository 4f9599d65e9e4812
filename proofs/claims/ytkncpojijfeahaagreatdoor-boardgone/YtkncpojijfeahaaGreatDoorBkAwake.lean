/- Layer 18's answers that the document fixes; errors.Is of a board's errors. -/
import Derived.Test.YtkncpojijfeahaaGreatDoorBkDue
import Derived.Test.YtkncpojijfeahaaGreatDoorJoinIsCode
namespace Go.Proofs.YtkncpojijfeahaaGreatDoor
open Go.ChangeShapes Go.WideShapes Go.ChangeAt Go.RowKit Go.Extern.Stop Go.Stop Go.Extern
set_option linter.unusedVariables false

set_option maxRecDepth 100000 in
set_option maxHeartbeats 2000000 in
/-- errors.Is of a fault of whatever package, which bears a code. -/
theorem is_fl2 (g : Nat) (c k : Int) (wh : ByteArray) (at' : Int) (w : World) (h : w.heap[g]? = some (.cells #[.string wh, .int .i64 at', .iface 52 (.int .i64 c)] 131 (0, 0))) :
    Calls Tryz.prog 15 #[.iface 129 (.pointer (some ⟨g, 0, none⟩)), .iface 52 (.int .i64 k)] w fun e w' => e = .returned (.bool (c == k)) ∧ w' = w := by
  have hc2 : w.cell? ⟨g, 2, none⟩ = some (.iface 52 (.int .i64 c)) := by simp [World.cell?, h]
  clear h
  have h28 := type_callL
  have h51 := comp_callL
  have mC := comp_methodL
  have nF := no_is_fl
  have uF := has_unwrapl
  have mU := unwrap_methodl
  have n1 := no_is_c
  have n2 := no_un_c
  have n3 := no_uns_c
  have hty := run_eql_iface_types (P := Tryz.prog) 129 52 (.pointer (some ⟨g, 0, none⟩)) (.int .i64 k) Tryz.underlying36 (by decide) w
  have heq := eql_codesL c k w
  cases hcc : (c == k)
  all_goals
    rw [hcc] at heq
    clear hcc
    go_enter Tryz.func15, Tryz.ntmps15
    go_wp2
    refine wp_loop_rounds 2 ?_
    rw [rounds_succ]
    go_wp2
    rw [rounds_succ]
    go_wp2
    go_ret
    exact ⟨rfl, rfl⟩
set_option maxRecDepth 100000 in
set_option maxHeartbeats 2000000 in
/-- errors.Is of a fault of package filter about a fault of package value. -/
theorem is_fin (g : Nat) (k : Int) (w : World) (h : FaultIn w g) :
    Calls Tryz.prog 15 #[.iface 129 (.pointer (some ⟨g, 0, none⟩)), .iface 52 (.int .i64 k)] w fun e w' => e = .returned (.bool (3 == k)) ∧ w' = w := by
  obtain ⟨M, a, b, h1, h2⟩ := h
  have hc1 : w.cell? ⟨g, 2, none⟩ = some (.iface 129 (.pointer (some ⟨M, 0, none⟩))) := by simp [World.cell?, h1]
  have hc2 : w.cell? ⟨M, 2, none⟩ = some (.iface 52 (.int .i64 3)) := by simp [World.cell?, h2]
  clear h1 h2
  have h28 := type_callL
  have h51 := comp_callL
  have mC := comp_methodL
  have nF := no_is_fl
  have uF := has_unwrapl
  have mU := unwrap_methodl
  have n1 := no_is_c
  have n2 := no_un_c
  have n3 := no_uns_c
  have hty := run_eql_iface_types (P := Tryz.prog) 129 52 (.pointer (some ⟨g, 0, none⟩)) (.int .i64 k) Tryz.underlying36 (by decide) w
  have hty2 := run_eql_iface_types (P := Tryz.prog) 129 52 (.pointer (some ⟨M, 0, none⟩)) (.int .i64 k) Tryz.underlying36 (by decide) w
  have heq := eql_codesL 3 k w
  cases hcc : ((3 : Int) == k)
  all_goals
    rw [hcc] at heq
    clear hcc
    go_enter Tryz.func15, Tryz.ntmps15
    go_wp2
    refine wp_loop_rounds 3 ?_
    rw [rounds_succ]
    go_wp2
    rw [rounds_succ]
    go_wp2
    rw [rounds_succ]
    go_wp2
    go_ret
    exact ⟨rfl, rfl⟩
/-- errors.Is of codes. -/
theorem is_cd (c k : Int) (w : World) : Calls Tryz.prog 15 #[.iface 52 (.int .i64 c), .iface 52 (.int .i64 k)] w fun e w' => e = .returned (.bool (c == k)) ∧ w' = w := by
  by_cases h : c = k
  · subst h
    refine (is_code c w).mono ?_
    rintro e w' ⟨h1, h2⟩
    exact ⟨by rw [h1]; simp, h2⟩
  · refine (is_other c k h w).mono ?_
    rintro e w' ⟨h1, h2⟩
    have : (c == k) = false := by simpa using h
    exact ⟨by rw [h1, this], h2⟩

/-- Texts of at most 300 bytes: a filter, or ErrParse. -/
theorem two_q3 (s : ByteArray) (hs : s.size ≤ 300) : ∃ (ps : List Pl) (cd pl : Int), ps.length ≤ 1000 ∧ (∀ p ∈ ps, PrnL p) ∧ TwoQ s ps cd pl ∧ (cd = 0 ∨ cd = 2) := by
  obtain ⟨ps, cd, pl, h1, h2, h3⟩ := two_q s (by omega)
  have hl : ¬ 300 < s.size := by omega
  have hm : s.size ≤ maxLen := by unfold maxLen; omega
  cases hp : pars s.data.toList with
  | fail b r =>
    refine ⟨[], 2, ((s.size - r.length : Nat) : Int), by simp, by simp, ⟨fun W E => ?_, fun W => ?_⟩, .inr rfl⟩
    · refine (parse_any s W E hm).mono ?_
      rintro e w' ⟨hA, hb⟩
      obtain ⟨N, rfl, hF⟩ := hA.fail hl hp
      exact ⟨_, _, rfl, plin_nil _ 0, Or.inr ⟨by omega, N, rfl, hF⟩, hb⟩
    · refine (rparse_any s W hm).mono ?_
      rintro e w' ⟨hA, hb⟩
      unfold RParsAns at hA
      rw [if_neg hl, hp] at hA
      exact ⟨_, hA, plin_nil _ 0, hb⟩
  | ok qs r =>
    have hn : qs.length ≤ 1000 := by
      have h1 : ∀ n acc l qs r, rFil n acc l = .ok qs r → qs.length ≤ acc.length + n := by
        intro n
        induction n with
        | zero => intro acc l qs r h; unfold rFil at h; cases h
        | succ n ih =>
          intro acc l qs r h
          unfold rFil at h
          split at h
          · cases h
          · split at h
            · cases h; simp
            · cases h
            · have := ih _ _ _ _ h; simp at this; omega
      have h2 := h1 _ _ _ _ _ (show rFil (s.data.toList.length + 1) [] s.data.toList = .ok qs r from hp)
      simp at h2; omega
    refine ⟨qs, 0, 0, hn, pars_prn hp (by simp; omega), ⟨fun W E => ?_, fun W => ?_⟩, .inl rfl⟩
    · refine (parse_any s W E hm).mono ?_
      rintro e w' ⟨hA, hb⟩
      obtain ⟨v, rfl, hrow⟩ := hA.ok hl hp
      exact ⟨_, _, rfl, PlIn.ofOwn hrow, Or.inl ⟨rfl, rfl⟩, hb⟩
    · refine (rparse_any s W hm).mono ?_
      rintro e w' ⟨hA, hb⟩
      unfold RParsAns at hA
      rw [if_neg hl, hp] at hA
      obtain ⟨v, rfl, hrow⟩ := hA
      exact ⟨_, rfl, PlIn.ofOwn hrow, hb⟩

def l39 : List UInt8 := [112, 114, 105, 99, 101, 32, 105, 110, 32, 51, 46, 46, 57]
def s39 : ByteArray := ⟨#[112, 114, 105, 99, 101, 32, 105, 110, 32, 51, 46, 46, 57]⟩
theorem num9e : rNumber [57] = .ok 9 [] := by
  have e1 : ([57] : List UInt8).dropWhile isBlank = [57] := rfl
  have e2 : nSign [57] = [] := rfl
  have e3 : nDigits [57] = [57] := rfl
  have e4 : nRest [57] = [] := rfl
  have e5 : Lib.atoiAll [57] = .ok 9 := by decide
  have e6 : Lib.itoa 9 = [57] := by unfold Lib.itoa; rw [if_neg (by decide)]; show Lib.decDigits 9 = _; rw [Lib.decDigits, dif_pos (by decide)]; rfl
  unfold rNumber
  rw [e1]; simp only [e2, e3, e4, List.nil_append, e5, e6]
  rfl
theorem nums39e : rNums [105, 110, 32, 51, 46, 46, 57] = .ok (3, 9) [] := by
  have e1 : rThis [105, 110] [105, 110, 32, 51, 46, 46, 57] = .ok () [32, 51, 46, 46, 57] := rfl
  have e2 : rMark [46, 46] [46, 46, 57] = .ok () [57] := by
    have : ([46, 46, 57] : List UInt8).dropWhile isBlank = [46, 46, 57] := rfl
    unfold rMark; rw [this]; simp
  unfold rNums
  rw [e1]; simp only [num3, e2, num9e]
theorem pred39 : rPred l39 = .ok ⟨lPrice, 1, 3, 9, []⟩ [] := by
  have e1 : rWord l39 = .ok lPrice [32, 105, 110, 32, 51, 46, 46, 57] := rfl
  have e2 : rBegin [32, 105, 110, 32, 51, 46, 46, 57] = .ok () [105, 110, 32, 51, 46, 46, 57] := rfl
  unfold rPred
  rw [e1]; simp only [e2]
  unfold rAsk
  simp only
  rw [if_neg (by decide), if_neg (by decide), nums39e]
theorem pars39 : pars l39 = .ok [⟨lPrice, 1, 3, 9, []⟩] [] := by
  have e2 : rThis [97, 110, 100] [] = .fail true [] := rfl
  unfold pars
  show rFil (12 + 1 + 1) [] l39 = _
  rw [rFil, pred39]; simp only [e2]; rfl
theorem two39 : TwoQ s39 [⟨lPrice, 1, 3, 9, []⟩] 0 0 ∧ ∀ p ∈ [(⟨lPrice, 1, 3, 9, []⟩ : Pl)], PrnL p := by
  have hl : ¬ 300 < s39.size := by decide
  have hp : pars s39.data.toList = .ok [⟨lPrice, 1, 3, 9, []⟩] [] := pars39
  refine ⟨⟨fun W E => ?_, fun W => ?_⟩, pars_prn hp (by decide)⟩
  · refine (parse_any s39 W E (by decide)).mono ?_
    rintro e w' ⟨hA, hb⟩
    obtain ⟨v, rfl, hrow⟩ := hA.ok hl hp
    exact ⟨_, _, rfl, PlIn.ofOwn hrow, Or.inl ⟨rfl, rfl⟩, hb⟩
  · refine (rparse_any s39 W (by decide)).mono ?_
    rintro e w' ⟨hA, hb⟩
    unfold RParsAns at hA
    rw [if_neg hl, hp] at hA
    obtain ⟨v, rfl, hrow⟩ := hA
    exact ⟨_, rfl, PlIn.ofOwn hrow, hb⟩
end Go.Proofs.YtkncpojijfeahaaGreatDoor
