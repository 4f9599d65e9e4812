/- errors.Is of two like codes. -/
import Derived.Test.YtkncpojijfeahaaGreatDoorRows
import Derived.Test.YtkncpojijfeahaaGreatDoorJoinBkMap
import Derived.LaidEql
import Derived.Stop.Asserts
import Derived.RowKitTokens
import Derived.WalkKit
import Derived.ProofKit
import Derived.OpenShut
import Derived.WalkLawsBesides
import Derived.Outline
import Derived.Test.YtkncpojijfeahaaGreatDoorFilOne
import Derived.Test.YtkncpojijfeahaaGreatDoorJoinBkBase
set_option linter.unnecessarySimpa false
namespace Go.Proofs.YtkncpojijfeahaaGreatDoor
open Go.ChangeShapes Go.WideShapes Go.ChangeAt Go.RowKit Go.Extern.Stop Go.Stop Go.Extern
set_option linter.unusedVariables false

theorem type_callL (v : Value) (w : World) : Sem.run Tryz.prog (callFunc 31 #[.iface 52 v]) w = .ok (.value (.iface 143 (.agg #[.pointer (some ⟨6, 52, none⟩)]))) w := by
  rw [@run_callFunc_extern Tryz.prog 31 _ Extern.ReflectliteType.typeOf Tryz.func31 (by kernel_rfl) (by kernel_rfl) (by kernel_rfl) (by kernel_rfl)]
  kernel_rfl
theorem comp_callL (w : World) : Sem.run Tryz.prog (callFunc 167 #[.agg #[.pointer (some ⟨6, 52, none⟩)]]) w = .ok (.value (.bool true)) w := by
  rw [@run_callFunc_extern Tryz.prog 167 _ (Extern.ReflectliteType.method fun t => do Go.Extern.Rtype.noPackHeld "Comparable" t; pure (.bool (← typeInfo t).comparable)) Tryz.func167 (by kernel_rfl) (by kernel_rfl) (by kernel_rfl) (by kernel_rfl)]
  kernel_rfl
theorem comp_methodL (v : Value) (w : World) : (Go.method 392 143 v "Comparable").run Tryz.prog w = .ok (167, v) w := by kernel_rfl
theorem code_compL : (Tryz.prog.info? 52).map (·.comparable) = some true := by kernel_rfl
/-- Two codes as errors are equal as their numbers are. -/
theorem eql_codesL (a b : Int) (w : World) : (binOp .eql 36 (.iface 52 (.int .i64 a)) (.iface 52 (.int .i64 b))).run Tryz.prog w = .ok (.bool (a == b)) w := by
  obtain ⟨i, hi, hc⟩ := Option.map_eq_some_iff.1 code_compL
  have h : ∀ d : Nat, (Op.equalIn (d + 2) 36 (.iface 52 (.int .i64 a)) (.iface 52 (.int .i64 b))).run Tryz.prog w = .ok (a == b) w := fun d => by
    simp [Op.equalIn, run_underlying Tryz.underlying36, run_underlying Tryz.underlying52, typeInfo, hi, hc]
  simp only [binOp]
  simp [Op.equal, Op.maxDepth, h 9998]

set_option maxRecDepth 100000 in
theorem is_code (c : Int) (w : World) :
    Calls Tryz.prog 15 #[.iface 52 (.int .i64 c), .iface 52 (.int .i64 c)] w fun e w' => e = .returned (.bool true) ∧ w' = w := by
  have h18 := type_callL
  have h45 := comp_callL
  have mC := comp_methodL
  have heq := eql_codesL c c w
  have hcc : (c == c) = true := by simp
  rw [hcc] at heq
  clear hcc
  go_enter Tryz.func15, Tryz.ntmps15
  go_wp2
  refine wp_loop_rounds 1 ?_
  rw [rounds_succ]
  go_wp2
  go_ret
  exact ⟨rfl, rfl⟩
end Go.Proofs.YtkncpojijfeahaaGreatDoor

/- errors.Is of nothing, of another code. -/
namespace Go.Proofs.YtkncpojijfeahaaGreatDoor
open Go.ChangeShapes Go.WideShapes Go.ChangeAt Go.RowKit Go.Extern.Stop Go.Stop Go.Extern
set_option linter.unusedVariables false

theorem eql_nil_code (c : Int) (w : World) : (binOp .eql 36 .nilIface (.iface 52 (.int .i64 c))).run Tryz.prog w = .ok (.bool false) w := by
  have h : ∀ d : Nat, (Op.equalIn (d + 2) 36 .nilIface (.iface 52 (.int .i64 c))).run Tryz.prog w = .ok false w := fun d => by
    simp [Op.equalIn, run_underlying Tryz.underlying36]
  simp only [binOp]
  simp [Op.equal, Op.maxDepth, h 9998]
set_option maxRecDepth 100000 in
theorem is_none (c : Int) (w : World) : Calls Tryz.prog 15 #[.nilIface, .iface 52 (.int .i64 c)] w fun e w' => e = .returned (.bool false) ∧ w' = w := by
  have heq := eql_nil_code c w
  go_enter Tryz.func15, Tryz.ntmps15
  go_wp2
  go_ret
  exact ⟨rfl, rfl⟩
theorem no_is_c (v : Value) (xT : TypeId) (w : World) : (Instr.typeAssert (.iface 52 v) xT 145 true).run Tryz.prog w = .ok (.tuple #[.nilIface, .bool false]) w := run_typeAssert_lacksB Tryz.underlying145 (by kernel_rfl) (by kernel_rfl) v xT w
theorem no_un_c (v : Value) (xT : TypeId) (w : World) : (Instr.typeAssert (.iface 52 v) xT 148 true).run Tryz.prog w = .ok (.tuple #[.nilIface, .bool false]) w := run_typeAssert_lacksB Tryz.underlying148 (by kernel_rfl) (by kernel_rfl) v xT w
theorem no_uns_c (v : Value) (xT : TypeId) (w : World) : (Instr.typeAssert (.iface 52 v) xT 149 true).run Tryz.prog w = .ok (.tuple #[.nilIface, .bool false]) w := run_typeAssert_lacksB Tryz.underlying149 (by kernel_rfl) (by kernel_rfl) v xT w

set_option maxRecDepth 100000 in
theorem is_other (a c : Int) (hac : a ≠ c) (w : World) :
    Calls Tryz.prog 15 #[.iface 52 (.int .i64 a), .iface 52 (.int .i64 c)] w fun e w' => e = .returned (.bool false) ∧ w' = w := by
  have h18 := type_callL
  have h45 := comp_callL
  have mC := comp_methodL
  have n1 := no_is_c
  have n2 := no_un_c
  have n3 := no_uns_c
  have heq := eql_codesL a c w
  have hcc : (a == c) = false := by simpa using hac
  rw [hcc] at heq
  clear hcc hac
  go_enter Tryz.func15, Tryz.ntmps15
  go_wp2
  refine wp_loop_rounds 1 ?_
  rw [rounds_succ]
  go_wp2
  go_ret
  exact ⟨rfl, rfl⟩
end Go.Proofs.YtkncpojijfeahaaGreatDoor

/- The reader of package filter: filter; filter.Parse. -/
namespace Go.Proofs.YtkncpojijfeahaaGreatDoor
open Go.ChangeShapes Go.WideShapes Go.ChangeAt Go.RowKit
set_option linter.unusedVariables false

def rFil : Nat → List Pl → List UInt8 → Ps (List Pl)
  | 0, _, l => .fail false l
  | n + 1, acc, l => match rPred l with
    | .fail e r => .fail e r
    | .ok q r => match rThis [97, 110, 100] r with
      | .fail true r' => .ok (acc ++ [q]) r'
      | .fail false r' => .fail false r'
      | .ok _ r' => rFil n (acc ++ [q]) r'

theorem rChars_len (l : List UInt8) : ∀ acc, (rChars acc l).left.length ≤ l.length := by
  induction hn : l.length using Nat.strongRecOn generalizing l with
  | _ n ih =>
    intro acc
    cases l with
    | nil => unfold rChars; simp [Ps.left]
    | cons c r =>
      have hl : n = r.length + 1 := by rw [← hn]; rfl
      unfold rChars
      split
      · simp [Ps.left]; omega
      · split
        · simp [Ps.left]; omega
        · split
          · cases r with
            | nil => simp [Ps.left]
            | cons d r' =>
              simp only
              split
              · have := ih r'.length (by simp at hl; omega) r' rfl (acc ++ [d])
                simp at hl; omega
              · simp [Ps.left] at hl ⊢; omega
          · have := ih r.length (by omega) r rfl (acc ++ [c])
            omega
theorem suf_len {l r : List UInt8} (h : r <:+ l) : r.length ≤ l.length := h.length_le
theorem rStr_len (l : List UInt8) : (rStr l).left.length ≤ l.length := by
  have h := suf_len (rMark_suf [34] l)
  unfold rStr
  split
  · rename_i e; rw [e] at h; exact Nat.le_trans (rChars_len _ _) h
  · rename_i e; rw [e] at h; exact h
theorem rMarkStr_len (m l : List UInt8) : (rMarkStr m l).left.length ≤ l.length := by
  have h := suf_len (rMark_suf m l)
  unfold rMarkStr
  split
  · rename_i e; rw [e] at h; exact Nat.le_trans (rStr_len _) h
  · rename_i e; rw [e] at h; exact h
theorem rNumber_len (l : List UInt8) : (rNumber l).left.length ≤ l.length := by
  have h := suf_len (List.dropWhile_suffix (p := isBlank) (l := l))
  unfold rNumber
  split
  · simp [Ps.left]
  · rename_i c r e
    rw [e] at h
    split
    · split
      · refine Nat.le_trans ?_ h
        unfold nRest
        exact Nat.le_trans (suf_len (List.dropWhile_suffix _)) (by simp)
      · exact h
    · exact h
theorem rNums_len (l : List UInt8) : (rNums l).left.length ≤ l.length := by
  have h := suf_len (rThis_suf [105, 110] l)
  unfold rNums
  split
  · rename_i e; rw [e] at h; exact h
  · rename_i r e
    rw [e] at h
    have h2 := rNumber_len r
    split
    · rename_i e2; rw [e2] at h2; exact Nat.le_trans h2 h
    · rename_i lo r2 e2
      rw [e2] at h2
      have h3 := suf_len (rMark_suf [46, 46] r2)
      split
      · rename_i e3; rw [e3] at h3; exact Nat.le_trans h3 (Nat.le_trans h2 h)
      · rename_i r3 e3
        rw [e3] at h3
        have h4 := rNumber_len r3
        split
        · rename_i e4; rw [e4] at h4; exact Nat.le_trans h4 (Nat.le_trans h3 (Nat.le_trans h2 h))
        · rename_i e4; rw [e4] at h4; exact Nat.le_trans h4 (Nat.le_trans h3 (Nat.le_trans h2 h))
theorem rAsk_len (nm l : List UInt8) : (rAsk nm l).left.length ≤ l.length := by
  cases l with
  | nil => simp [rAsk, Ps.left]
  | cons c r =>
    unfold rAsk
    simp only
    split
    · have h := rMarkStr_len [61] (c :: r)
      split <;> (rename_i e; rw [e] at h; exact h)
    · split
      · have h := rMarkStr_len [94, 61] (c :: r)
        split <;> (rename_i e; rw [e] at h; exact h)
      · have h := rNums_len (c :: r)
        split <;> (rename_i e; rw [e] at h; exact h)
theorem rPred_len {l r : List UInt8} {q : Pl} (h : rPred l = .ok q r) : r.length < l.length := by
  unfold rPred at h
  split at h
  · cases h
  · rename_i nm r1 e1
    have h1 : r1.length < l.length := by
      unfold rWord at e1
      have hs := suf_len (List.dropWhile_suffix (p := isBlank) (l := l))
      split at e1
      · cases e1
      · rename_i c r' e'
        rw [e'] at hs
        split at e1
        · rename_i hc
          cases e1
          have : ((c :: r').dropWhile alnum) = r'.dropWhile alnum := by rw [List.dropWhile_cons, if_pos (by simp [alnum, hc])]
          rw [this]
          have := suf_len (List.dropWhile_suffix (p := alnum) (l := r'))
          simp at hs; omega
        · cases e1
    have h2 := suf_len (rBegin_suf r1)
    split at h
    · cases h
    · rename_i u r2 e2
      rw [e2] at h2
      have h3 := rAsk_len nm r2
      rw [h] at h3
      simp only [Ps.left] at h2 h3
      omega

/-- What filter carries: the reader's place, the predicates so far. -/
structure FlAt (w w' : World) (p : Nat) (s : ByteArray) (j : Nat) (v : Value) (acc : List Pl) : Prop where
  rd : Rd w' p s j
  kp : Kp w w' p
  row : w'.ownsRow w.heap.size 134 5 v acc.length (acc.flatMap Pl.cells)
theorem Pl.cells_len (q : Pl) : q.cells.length = 5 := rfl
theorem Tryz.infoPd : (Tryz.prog.info? 134).map (fun i => (i.zero, i.size, i.bytes)) = some (some (.agg #[.string ByteArray.empty, .int .i64 0, .int .i64 0, .int .i64 0, .string ByteArray.empty]), 5, 56) := by kernel_rfl
theorem row_kp {w w' w'' : World} {p : Nat} {v : Value} {n : Nat} {xs : List Value} (h : w'.ownsRow w.heap.size 134 5 v n xs) (hk : Kp w' w'' p) (hp : p < w.heap.size) : w''.ownsRow w.heap.size 134 5 v n xs := by
  refine ⟨h.1, ?_⟩
  rcases h.2 with h1 | ⟨g', cap, cur, hv, hbg, hg, hr⟩
  · exact .inl h1
  · exact .inr ⟨g', cap, cur, hv, hbg, (hk.block g' (lt_of_block hg) (by omega)).trans hg, hr⟩
theorem FlAt.kept {w w' w'' : World} {p : Nat} {s : ByteArray} {j j' : Nat} {v : Value} {acc : List Pl} (h : FlAt w w' p s j v acc) (hp : p < w.heap.size) (hr : Rd w'' p s j') (hk : Kp w' w'' p) : FlAt w w'' p s j' v acc :=
  ⟨hr, h.kp.trans hk, row_kp h.row hk hp⟩
theorem FlAt.below {w w' w'' : World} {p : Nat} {s : ByteArray} {j : Nat} {v : Value} {acc : List Pl} (h : FlAt w w' p s j v acc) (hp : p < w.heap.size) (hb : Below w'.heap.size w' w'') : FlAt w w'' p s j v acc :=
  h.kept hp (h.rd.below hb) (Kp.ofBelow hb)
theorem FlAt.app {w w' w2 : World} {p : Nat} {s : ByteArray} {j : Nat} {v v' : Value} {acc : List Pl} {q : Pl} (h : FlAt w w' p s j v acc) (hp : p < w.heap.size) (ha : Appended5 w.heap.size 134 w' w2 v v' (acc.length + 1) (acc.flatMap Pl.cells ++ q.cells)) :
    FlAt w w2 p s j v' (acc ++ [q]) := by
  have hg := ha.grown
  have hsz : w.heap.size ≤ w'.heap.size := h.kp.size
  have far : ∀ k, k < w.heap.size → some k ≠ v.ownBlock := fun k hk e => by have := (h.row.lt k e.symm).1; omega
  refine ⟨⟨(hg.block p h.rd.lt (far p hp)).trans h.rd.box, h.rd.le⟩, ⟨hg.os.trans h.kp.os, hg.tape.trans h.kp.tape, hg.output.trans h.kp.output, Nat.le_trans hsz hg.size, fun k hk hkp => ?_⟩, ?_⟩
  · rw [hg.block k (by omega) (far k hk)]
    exact h.kp.block k hk hkp
  · have := ha.row
    simpa [List.flatMap_append] using this
theorem src_Pl (w : World) (q : Pl) (x : Nat) (hx : x = w.heap.size) :
    Src Tryz.prog 5 87 (.slice (some ⟨x, 0, none⟩) 1 1) 1 q.cells (w.alloc (.cells #[.string (ba q.name), .int .i64 q.op, .int .i64 q.lo, .int .i64 q.hi, .string (ba q.str)] 134)) :=
  Src.ofSlice _ Tryz.underlying87 _ 1 1 _ rfl (fun j u hu => by
    subst hx
    have := World.news_of_block (cs := #[.string (ba q.name), .int .i64 q.op, .int .i64 q.lo, .int .i64 q.hi, .string (ba q.str)]) (t := 134) (fr := (0, 0)) (heap_alloc_new w _) j u (by simpa [Pl.cells] using hu)
    exact this) (by simp [Pl.cells, Value.oneCell'])
/-- What a filter's call answers. -/
def FilAns (e : Ending) (w w' : World) : Ps (List Pl) → Prop
  | .ok ps _ => ∃ v, e = .returned (.tuple #[v, .nilIface]) ∧ w'.ownsRow w.heap.size 134 5 v ps.length (ps.flatMap Pl.cells)
  | .fail b _ => e = .returned (.tuple #[.slice none 0 0, ec b])
end Go.Proofs.YtkncpojijfeahaaGreatDoor

/- filter.Parse. -/
namespace Go.Proofs.YtkncpojijfeahaaGreatDoor
open Go.ChangeShapes Go.WideShapes Go.ChangeAt Go.RowKit
set_option linter.unusedVariables false

set_option maxRecDepth 100000 in
set_option maxHeartbeats 4000000 in
theorem filter_r (p : Nat) (s : ByteArray) (k : Nat) (w0 w : World) (E : Env w0) (hB : Below w0.heap.size w0 w) (hp : w0.heap.size ≤ p) (h : Rd w p s k) (hs : s.size ≤ 1000) :
    Calls Tryz.prog 69 #[.pointer (some ⟨p, 0, none⟩)] w fun e w' => FilAns e w w' (rFil ((dr s k).length + 1) [] (dr s k)) ∧ ∃ k', Rd w' p s k' ∧ dr s k' = (rFil ((dr s k).length + 1) [] (dr s k)).left ∧ Kp w w' p := by
  have HE : Hid (Env w0 ∧ Below w0.heap.size w0 w ∧ w0.heap.size ≤ p) := ⟨E, hB, hp⟩
  obtain ⟨i0, hi, hz0, hz1, hz2⟩ := info_parts Tryz.infoPd
  have hpw := h.lt
  clear E hB
  obtain ⟨RF, hRF⟩ : ∃ RF, RF = rFil ((dr s k).length + 1) [] (dr s k) := ⟨_, rfl⟩
  have HRF : Hid (RF = rFil ((dr s k).length + 1) [] (dr s k)) := hRF
  rw [← hRF]
  clear hRF
  have HS : Hid (FlAt w w p s k (.slice none 0 0) []) := ⟨h, Kp.refl _ _, World.ownsRow_nil _ _ _ _⟩
  have hk := h.le
  clear h
  go_enter Tryz.func69, Tryz.ntmps69
  go_wp2_with fail
  go_loopg [4] ((dr s k).length + 1) (fun kx s4 wr => ∃ (n j : Nat) (acc : List Pl) (a : Option Addr) (c : Nat), kx = n + 1 ∧ s4 = .slice a acc.length c ∧ j ≤ s.size ∧ acc.length ≤ j ∧ (dr s j).length < n + 1 ∧ Hid (FlAt w wr p s j (.slice a acc.length c) acc ∧ RF = rFil (n + 1) acc (dr s j)))
  case atStart => exact ⟨(dr s k).length, k, [], none, 0, rfl, rfl, hk, Nat.zero_le _, Nat.lt_succ_self _, (⟨HS.out, HRF.out⟩ : _ ∧ _)⟩
  case round =>
    obtain ⟨n, j, acc, a, c, hkg, rfl, hj, hacc, hkx, I⟩ := hrel
    have hBr := I.out.1.kp.below HE.out.2.1 hp HE.out.2.1.size
    have HBr : Hid (Below w0.heap.size w0 wr) := hBr
    clear hBr
    go_wp2_with fail
    refine (pred_any p s j w0 _ HE.out.1 HBr.out hp I.out.1.rd hs).mono ?_
    rintro e w1 ⟨rfl, b, hR, hb, hK⟩
    cases hres : rPred (dr s j) with
    | fail ee r =>
      rw [hres] at hb
      have HW : Hid (RF = .fail ee r) := by
        have e := I.out.2
        show RF = .fail ee r
        rw [e]; unfold rFil; rw [hres]
      have HR : Hid (Rd w1 p s b ∧ dr s b = r ∧ Kp w w1 p) := ⟨hR, hb, I.out.1.kp.trans hK⟩
      clear hb hR hK hres
      cases ee
      all_goals
        simp only [predV, ec, aggZ]
        go_wp2
        go_ret2
        rw [HW.out]
        refine ⟨rfl, b, ?_, HR.out.2.1, ?_⟩
        · exact HR.out.1.below ((Below.refl _ _).alloc (Nat.le_refl _) _)
        · exact HR.out.2.2.trans (Kp.ofBelow ((Below.refl _ _).alloc (Nat.le_refl _) _))
    | ok q r =>
      have hlen := rPred_len hres
      rw [hres] at hb
      have hb' : dr s b = r := hb
      have hbj : j < b := by
        have h1 := dr_len s j
        have h2 := dr_len s b
        rw [hb'] at h2
        omega
      have hbs := hR.le
      have hbn : (dr s b).length < n := by rw [hb']; omega
      have HF1 : Hid (FlAt w w1 p s b (.slice a acc.length c) acc) := I.out.1.kept hpw hR hK
      have HT : Hid (rPred (dr s j) = .ok q (dr s b)) := by rw [hb']; exact hres
      clear hb hb' hK hres hlen hR
      have hle1 : w.heap.size ≤ w1.heap.size := HF1.out.kp.size
      simp only [predV, Pl.agg]
      go_wp2_with (at_builtin; refine wpList_own_append5 _ rfl _ _ 87 87 rfl w.heap.size 134 i0 _ 56 Tryz.underlying87 hi hz0 hz1 hz2 rfl _ _ _ rfl ((HF1.out.row.alloc _).alloc _) _ 1 q.cells rfl (src_Pl (w1.alloc _) q (w1.heap.size + 1) (by simp)) ?c3 ?c4 ?c5 ?_)
      case c3 => unfold maxLen; omega
      case c4 => omega
      case c5 => simp; omega
      intro v3 w3 ha
      have HF3 : Hid (FlAt w w3 p s b v3 (acc ++ [q])) := FlAt.app (HF1.out.below hpw (((Below.refl _ _).alloc (Nat.le_refl _) _).alloc (by simp) _)) hpw ha
      obtain ⟨a3, c3', hv3⟩ := ha.shape
      subst hv3
      clear ha
      go_wp2_with fail
      refine (this_any p s ⟨#[97, 110, 100]⟩ b _ HF3.out.rd hs).mono ?_
      rintro e w4 ⟨rfl, b4, hR4, hb4, hK4⟩
      have ei : (⟨#[97, 110, 100]⟩ : ByteArray).toList = [97, 110, 100] := by simp [ByteArray.toList_eq]
      rw [ei] at hb4 ⊢
      clear ei
      have HF4 : Hid (FlAt w w4 p s b4 (.slice a3 (acc.length + 1) c3') (acc ++ [q])) := HF3.out.kept hpw hR4 hK4
      have hb4s := hR4.le
      clear hR4 hK4
      have hl4 := suf_len (rThis_suf [97, 110, 100] (dr s b))
      cases hres4 : rThis [97, 110, 100] (dr s b) with
      | fail ee r4 =>
        rw [hres4] at hb4
        cases ee
        · have HW : Hid (RF = .fail false r4) := by
            have e := I.out.2
            show RF = .fail false r4
            rw [e]; unfold rFil; rw [HT.out]; simp only [hres4]
          clear hres4 hl4
          simp only [errV, ec]
          go_wp2_with (go_at_call 15; refine (is_other 2 10 (by decide) _).mono ?_; rintro e w' ⟨rfl, hw'⟩; subst w')
          go_ret2
          rw [HW.out]
          exact ⟨rfl, b4, HF4.out.rd, hb4, HF4.out.kp⟩
        · have HW : Hid (RF = .ok (acc ++ [q]) r4) := by
            have e := I.out.2
            show RF = .ok (acc ++ [q]) r4
            rw [e]; unfold rFil; rw [HT.out]; simp only [hres4]
          clear hres4 hl4
          simp only [errV, ec]
          go_wp2_with (go_at_call 15; refine (is_code 10 _).mono ?_; rintro e w' ⟨rfl, hw'⟩; subst w')
          go_ret2
          rw [HW.out]
          refine ⟨⟨_, rfl, ?_⟩, b4, HF4.out.rd, hb4, HF4.out.kp⟩
          simpa using HF4.out.row
      | ok u r4 =>
        rw [hres4] at hb4 hl4
        have hb4' : dr s b4 = r4 := hb4
        have hl4' : (dr s b4).length ≤ (dr s b).length := by rw [hb4']; exact hl4
        have hbb : b ≤ b4 := by
          have h1 := dr_len s b
          have h2 := dr_len s b4
          omega
        have HW : Hid (RF = rFil n (acc ++ [q]) (dr s b4)) := by
          have e := I.out.2
          show RF = rFil n (acc ++ [q]) (dr s b4)
          rw [e]
          conv => lhs; unfold rFil
          rw [HT.out]; simp only [hres4]; rw [hb4']
        clear hres4 hl4 hb4 hb4'
        simp only [errV]
        go_wp2_with (go_at_call 15; refine (is_none 10 _).mono ?_; rintro e w' ⟨rfl, hw'⟩; subst w')
        go_roundg n
        case measure => omega
        case rel => exact ⟨n - 1, b4, acc ++ [q], a3, c3', by omega, by simp, hb4s, by simp; omega, by omega, (⟨by simpa using HF4.out, by rw [show n - 1 + 1 = n by omega]; exact HW.out⟩ : _ ∧ _)⟩
end Go.Proofs.YtkncpojijfeahaaGreatDoor

/- filter.Parse. -/
namespace Go.Proofs.YtkncpojijfeahaaGreatDoor
open Go.ChangeShapes Go.WideShapes Go.ChangeAt Go.RowKit
set_option linter.unusedVariables false

/-- A text's filter. -/
def pars (l : List UInt8) : Ps (List Pl) := rFil (l.length + 1) [] l
def sFilter : ByteArray := ⟨#[102, 105, 108, 116, 101, 114]⟩
/-- A fault of package filter lies in block N: its place, its code. -/
def FaultAt (w : World) (N : Nat) (at' c : Int) : Prop := w.heap[N]? = some (.cells #[.string ⟨#[102, 105, 108, 116, 101, 114]⟩, .int .i64 at', .iface 52 (.int .i64 c)] 131 (0, 0))
/-- What Parse answers. -/
def ParsAns (e : Ending) (w w' : World) (s : ByteArray) : Prop :=
  if 300 < s.size then ∃ N, e = .returned (.tuple #[.slice none 0 0, .iface 129 (.pointer (some ⟨N, 0, none⟩))]) ∧ FaultAt w' N 0 1
  else match pars s.data.toList with
    | .ok ps _ => ∃ v, e = .returned (.tuple #[v, .nilIface]) ∧ w'.ownsRow w.heap.size 134 5 v ps.length (ps.flatMap Pl.cells)
    | .fail _ r => ∃ N, e = .returned (.tuple #[.slice none 0 0, .iface 129 (.pointer (some ⟨N, 0, none⟩))]) ∧ FaultAt w' N ((s.size - r.length : Nat) : Int) 2

theorem below_drew1 {B : Nat} {a w : World} (h : Below B a w) : Below B a w.drew := h.trans ⟨rfl, rfl, rfl, Nat.le_refl _, fun _ _ => rfl⟩
set_option maxHeartbeats 2000000 in
theorem parse_any (s : ByteArray) (w : World) (E : Env w) (hs : s.size ≤ maxLen) :
    Calls Tryz.prog 46 #[.string s] w fun e w' => ParsAns e w w' s ∧ Below w.heap.size w w' := by
  by_cases hl : 300 < s.size
  · unfold maxLen at hs
    have HA : Hid (∀ e w', (∃ N, e = .returned (.tuple #[.slice none 0 0, .iface 129 (.pointer (some ⟨N, 0, none⟩))]) ∧ FaultAt w' N 0 1) → ParsAns e w w' s) := fun e w' hh => by
      unfold ParsAns; rw [if_pos hl]; exact hh
    go_enter Tryz.func46, Tryz.ntmps46
    go_wp2
    go_ret2
    exact ⟨HA.out _ _ ⟨_, rfl, heap_alloc_new w _⟩, (Below.refl _ _).alloc (Nat.le_refl _) _⟩
  · have hs3 : s.size ≤ 1000 := by omega
    obtain ⟨W, hW⟩ : ∃ W, W = w.alloc (.cells #[.string s, .int .i64 0] 175) := ⟨_, rfl⟩
    have hb : Below w.heap.size w W := by rw [hW]; exact (Below.refl _ _).alloc (Nat.le_refl _) _
    have hR : Rd W w.heap.size s 0 := ⟨by rw [hW]; exact heap_alloc_new w _, Nat.zero_le _⟩
    have hc := filter_r w.heap.size s 0 w W E hb (Nat.le_refl _) hR hs3
    have e0 : dr s 0 = s.data.toList := by simp [dr]
    rw [e0] at hc
    have HB : Hid (Below w.heap.size w W ∧ w.heap.size < W.heap.size) := ⟨hb, hR.lt⟩
    have HL : Hid (¬ 300 < s.size) := hl
    clear E hb hR e0
    unfold maxLen at hs
    go_enter Tryz.func46, Tryz.ntmps46
    go_wp2_with fail
    rw [← hW]
    clear hW
    refine hc.mono ?_
    clear hc
    rintro e w1 ⟨hA, k1, hR1, hk1, hK1⟩
    have hb1 := hK1.below HB.out.1 (Nat.le_refl _) HB.out.1.size
    cases hres : rFil (s.data.toList.length + 1) [] s.data.toList with
    | fail ee r =>
      rw [hres] at hA hk1
      have hA' : e = .returned (.tuple #[.slice none 0 0, ec ee]) := hA
      have hpos := dr_pos hR1.le hk1
      have HP : Hid (∀ e w', (∃ N, e = .returned (.tuple #[.slice none 0 0, .iface 129 (.pointer (some ⟨N, 0, none⟩))]) ∧ FaultAt w' N (k1 : Int) 2) → ParsAns e w w' s) := fun e w' hh => by
        have ep : pars s.data.toList = .fail ee r := hres
        unfold ParsAns; rw [if_neg HL.out, ep]
        rw [hpos] at hh
        exact hh
      have HB1 : Hid (Below w.heap.size w w1) := hb1
      have c1 := hR1.c1
      have cl := hR1.lt
      subst hA'
      clear hA hk1 hK1 hb1 hR1 hres hpos
      cases ee
      all_goals
        simp only [ec]
        go_wp2_with fail
        go_region
        go_wp2
        go_ret2
        refine ⟨HP.out _ _ ⟨_, rfl, ?_⟩, ?_⟩
        · exact heap_alloc_new w1 _
        · exact below_drew1 (HB1.out.trans (((Below.refl _ _).alloc (Nat.le_refl _) _ : Below w1.heap.size w1 (w1.alloc _)).mono HB1.out.size))
    | ok ps r =>
      rw [hres] at hA
      obtain ⟨v, hv, hrow⟩ := hA
      have HP : Hid (∀ e w', (∃ v, e = .returned (.tuple #[v, .nilIface]) ∧ w'.ownsRow w.heap.size 134 5 v ps.length (ps.flatMap Pl.cells)) → ParsAns e w w' s) := fun e w' hh => by
        have ep : pars s.data.toList = .ok ps r := hres
        unfold ParsAns; rw [if_neg HL.out, ep]
        exact hh
      have HRow : Hid (w1.ownsRow w.heap.size 134 5 v ps.length (ps.flatMap Pl.cells) ∧ Below w.heap.size w w1) := by
        refine ⟨⟨hrow.1, ?_⟩, hb1⟩
        rcases hrow.2 with h1 | ⟨g', cap, cur, hvv, hbg, hr⟩
        · exact .inl h1
        · exact .inr ⟨g', cap, cur, hvv, by have := HB.out.2; omega, hr⟩
      subst hv
      clear hrow hk1 hR1 hK1 hb1 hres
      go_wp2
      go_ret2
      exact ⟨HP.out _ _ ⟨v, rfl, HRow.out.1⟩, HRow.out.2⟩
end Go.Proofs.YtkncpojijfeahaaGreatDoor
