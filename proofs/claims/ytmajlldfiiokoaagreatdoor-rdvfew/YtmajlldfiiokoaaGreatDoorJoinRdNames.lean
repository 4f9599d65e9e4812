/- wigwaglaw21.names: of at most 30 texts of at most 30 bytes. -/
import Derived.Test.YtmajlldfiiokoaaGreatDoorJoinLinMath
import Derived.Deep.LoopGhost
import Derived.Test.YtmajlldfiiokoaaGreatDoorJoinRdKeep
import Derived.Test.YtmajlldfiiokoaaGreatDoorJoinIdOwn
import Derived.Test.YtmajlldfiiokoaaGreatDoorChAll
import Derived.Test.YtmajlldfiiokoaaGreatDoorJoinChStay
set_option linter.unnecessarySimpa false
namespace Go.Proofs.YtmajlldfiiokoaaGreatDoor
open Go.ChangeShapes Go.WideShapes Go.ChangeAt Go.RowKit Go.Deep
set_option linter.unusedVariables false

theorem sl_30 (s : ByteArray) (h : 30 < s.size) (W : World) : (Instr.slice 9 (.string s) none (some (.int .i64 30)) none).run Tryz.prog W = .ok (.string (s.extract 0 30)) W := by
  simp [go_sem, Tryz.underlying9]
  omega
def nameCut (s : ByteArray) : ByteArray := if 30 < s.size then s.extract 0 30 else s
theorem nameCut_len (s : ByteArray) : (nameCut s).size ≤ 30 := by
  unfold nameCut
  split
  · rw [ByteArray.size_extract]; omega
  · omega
/-- The texts as they are taken. -/
def namesL (L : List ByteArray) : List ByteArray := (L.take 30).map nameCut
theorem namesL_len (L : List ByteArray) : (namesL L).length ≤ 30 := by unfold namesL; simp; omega
theorem namesL_size (L : List ByteArray) : ∀ s ∈ namesL L, s.size ≤ 30 := fun s hs => by
  obtain ⟨t, _, rfl⟩ := List.mem_map.1 hs
  exact nameCut_len t
theorem empty_rowS (W : World) : (W.alloc (.cells #[] 9)).ownsRow W.heap.size 9 1 (.slice (some ⟨W.heap.size, 0, none⟩) 0 0) 0 [] :=
  ⟨rfl, .inr ⟨W.heap.size, 0, #[], rfl, Nat.le_refl _, heap_alloc_new W _, Nat.le_refl _, by unfold maxLen; omega, rfl, rfl⟩⟩

set_option maxRecDepth 100000 in
set_option maxHeartbeats 4000000 in
theorem names_any (a : Option Addr) (n c : Nat) (L : List ByteArray) (w : World) (h : StrIn w a n L) :
    Calls Tryz.prog 25 #[.slice a n c] w fun e w' => (∃ v, e = .returned v ∧ w'.ownsRow w.heap.size 9 1 v (namesL L).length ((namesL L).map Value.string)) ∧ Below w.heap.size w w' := by
  obtain ⟨i0, hi, hz0, hz1, hz2⟩ := infoStr_parts
  have HS : Hid (StrIn w a n L) := h
  have HLn : Hid (L.length = n) := h.1
  obtain ⟨W1, hW1⟩ : ∃ W, W = w.alloc (.cells #[] 9) := ⟨_, rfl⟩
  obtain ⟨q, hq⟩ : ∃ q, q = w.heap.size := ⟨_, rfl⟩
  have H1 : Hid (W1.ownsRow w.heap.size 9 1 (.slice (some ⟨q, 0, none⟩) 0 0) 0 [] ∧ Below w.heap.size w W1) := by
    rw [hW1, hq]; exact ⟨empty_rowS w, (Below.refl _ _).alloc (Nat.le_refl _) _⟩
  clear h
  go_enter Tryz.func25, Tryz.ntmps25
  go_upto_region 2 with fail
  rw [← hW1]
  try rw [← hq]
  clear hW1 hq
  go_wp2
  go_loopg [3, 4] 30 (fun kx v st wr => ∃ (i : Nat) (xa : Option Addr) (xc : Nat), st = .int .i64 i ∧ v = .slice xa i xc ∧ i ≤ 30 ∧ i ≤ n ∧ kx = 30 - i ∧ Hid (wr.ownsRow w.heap.size 9 1 (.slice xa i xc) i (((L.take i).map nameCut).map Value.string) ∧ Below w.heap.size w wr))
  case atStart => exact ⟨0, _, 0, rfl, rfl, by omega, by omega, rfl, ⟨H1.out.1, H1.out.2⟩⟩
  case round =>
    obtain ⟨i, xa, xc, rfl, rfl, h30, hin, rfl, HB⟩ := hrel
    go_upto_region 3 with fail
    go_cut [14] (fun v wx => ∃ bb : Bool, v = .bool bb ∧ (bb = true ↔ i < n ∧ i < 30) ∧ wx = wr)
    case first =>
      by_cases h1 : (i : Int) < (n : Int)
      · by_cases h2 : (i : Int) < 30
        · go_wp2
          go_meet
          exact ⟨true, by simp, by simp; omega, rfl⟩
        · go_wp2
          go_meet
          exact ⟨false, by simp, by simp; omega, rfl⟩
      · go_wp2
        go_meet
        exact ⟨false, by simp, by simp; omega, rfl⟩
    rename World => Wq
    obtain ⟨bb, rfl, hbb, hwq⟩ := hcut
    subst Wq
    cases bb with
    | true =>
      obtain ⟨hlt, hl30⟩ := hbb.1 rfl
      clear hbb
      have hkI : (0 : Int) ≤ (i : Int) ∧ (i : Int) < (n : Int) := by omega
      have hs := HS.out.below (Nat.le_refl _) HB.out.2
      obtain ⟨tb, tof, hta, htl, htc⟩ := hs.2.resolve_left (by omega)
      subst hta
      have htj := htc i hlt
      obtain ⟨s, hse⟩ : ∃ s, s = L.getD i ByteArray.empty := ⟨_, rfl⟩
      rw [← hse] at htj
      have HT : Hid (L.take (i + 1) = L.take i ++ [s]) := by
        show _ = _
        have hil : i < L.length := by have := HLn.out; omega
        rw [hse, List.take_add_one, List.getD_eq_getElem?_getD, List.getElem?_eq_getElem hil]; rfl
      clear hs htc hse
      go_upto_region 6 with fail
      go_upto_if 23 with fail
      go_cut [5] (fun v wx => v = .string (nameCut s) ∧ wx = wr)
      case first =>
        by_cases hb : 30 < s.size
        · have hbI : (30 : Int) < (s.size : Int) := by omega
          have e30 := fun W => sl_30 s hb W
          go_wp2
          go_meet
          exact ⟨by unfold nameCut; rw [if_pos hb], rfl⟩
        · have hbI : ¬ (30 : Int) < (s.size : Int) := by omega
          go_wp2
          go_meet
          exact ⟨by unfold nameCut; rw [if_neg hb], rfl⟩
      case rest =>
        rename World => Wz
        obtain ⟨rfl, hwz⟩ := hcut
        subst Wz
        clear htj htl
        obtain ⟨t, ht⟩ : ∃ t, t = nameCut s := ⟨_, rfl⟩
        rw [← ht]
        have HM : Hid (((L.take (i + 1)).map nameCut).map Value.string = ((L.take i).map nameCut).map Value.string ++ [.string t]) := by show _ = _; rw [HT.out, ht]; simp
        clear ht
        have HA : Hid ((wr.alloc (.cells #[.string t] 9)).ownsRow w.heap.size 9 1 (.slice xa i xc) i (((L.take i).map nameCut).map Value.string)) := HB.out.1.alloc _
        have HSR : Hid (Src Tryz.prog 1 55 (.slice (some ⟨wr.heap.size, 0, none⟩) 1 1) 1 [.string t] (wr.alloc (.cells #[.string t] 9))) := srcStr _ [.string t] _ (heap_alloc_new _ _) rfl (by simp [Value.oneCell'])
        have HSz : Hid (w.heap.size ≤ wr.heap.size) := HB.out.2.size
        go_wp2_with (at_builtin; go_loud (refine wpList_own_append _ rfl _ _ 55 55 rfl w.heap.size 9 i0 _ 16 Tryz.underlying55 hi hz0 hz1 hz2 rfl _ _ _ rfl HA.out _ 1 _ rfl HSR.out (by unfold maxLen; omega) (by omega) (by have := HSz.out; simp; omega) ?_))
        intro v' w3 ha
        obtain ⟨x3, k3, rfl⟩ := ha.shape
        have H3 : Hid (w3.ownsRow w.heap.size 9 1 (.slice x3 (i + 1) k3) (i + 1) (((L.take (i + 1)).map nameCut).map Value.string) ∧ Below w.heap.size w w3) := by
          refine ⟨by rw [HM.out]; have hr := ha.row; simpa [List.map_take] using hr, ?_⟩
          exact (HB.out.2.alloc HB.out.2.size _).grown ha.grown (by have := HSz.out; simp; omega) (fun z hz => (World.ownsRow.lt HA.out z hz).1)
        clear ha HA HSR HSz
        go_wp2
        go_roundg (30 - (i + 1))
        case measure => omega
        case rel => exact ⟨i + 1, x3, k3, by go_num, rfl, by omega, by omega, rfl, H3⟩
    | false =>
      have hi2 : ¬ (i < n ∧ i < 30) := fun q => by have := hbb.2 q; cases this
      have e : L.take i = L.take 30 := by
        have := HLn.out
        rcases Nat.lt_or_ge i n with q | q
        · have : i = 30 := by omega
          rw [this]
        · rw [List.take_of_length_le (by omega), List.take_of_length_le (by omega)]
      clear hbb
      go_wp2
      go_ret
      refine ⟨⟨_, rfl, ?_⟩, HB.out.2⟩
      have hr := HB.out.1
      rw [e] at hr
      have hl : (namesL L).length = i := by have := hr.1; simpa [namesL] using this
      rw [hl]
      exact hr
end Go.Proofs.YtmajlldfiiokoaaGreatDoor

/- When one comes, whoever keeps a group then and was there ahead of it kept it ahead of it. -/
namespace Go.Proofs.YtmajlldfiiokoaaGreatDoor
open Go.ChangeShapes Go.WideShapes Go.ChangeAt Go.RowKit Go.Deep
set_option linter.unusedVariables false

/-- Ahead of it, seen from x around the ring. -/
def rlt (x a b : Int) : Prop := (x ≤ a ∧ b < x) ∨ (x ≤ a ∧ x ≤ b ∧ a < b) ∨ (a < x ∧ b < x ∧ a < b)
theorem rlt_irr (x a : Int) : ¬ rlt x a a := by unfold rlt; omega
theorem rlt_asy {x a b : Int} (h : rlt x a b) : ¬ rlt x b a := by unfold rlt at *; omega
theorem sub_rise {α : Type} {r : α → α → Prop} (hasy : ∀ a b, r a b → ¬ r b a) : ∀ (L2 L1 : List α), L2.Pairwise r → L1.Pairwise r → (∀ x ∈ L1, x ∈ L2) → L1.Sublist L2
  | [], L1, _, _, h => by
    cases L1 with
    | nil => exact .slnil
    | cons a s => have := h a (by simp); simp at this
  | b :: t, [], _, _, _ => List.nil_sublist _
  | b :: t, a :: s, h2, h1, h => by
    have q2 := List.pairwise_cons.1 h2
    have q1 := List.pairwise_cons.1 h1
    have hirr : ∀ y, ¬ r y y := fun y hy => hasy y y hy hy
    by_cases e : a = b
    · subst e
      refine .cons_cons _ (sub_rise hasy t s q2.2 q1.2 (fun x hx => ?_))
      rcases List.mem_cons.1 (h x (by simp [hx])) with e | m
      · subst e; exact absurd (q1.1 x hx) (hirr x)
      · exact m
    · have hat : a ∈ t := by
        rcases List.mem_cons.1 (h a (by simp)) with e2 | m
        · exact absurd e2 e
        · exact m
      refine .cons _ (sub_rise hasy t (a :: s) q2.2 h1 (fun x hx => ?_))
      rcases List.mem_cons.1 (h x hx) with e2 | m
      · subst e2
        rcases List.mem_cons.1 hx with e3 | m3
        · exact absurd e3.symm e
        · exact absurd (q1.1 x m3) (hasy x a (q2.1 a hat))
      · exact m
theorem take_sub {α : Type} {L1 L2 : List α} (h : L1.Sublist L2) : L2.Nodup → ∀ (m : Nat) (x : α), x ∈ L2.take m → x ∈ L1 → x ∈ L1.take m := by
  induction h with
  | slnil => intro _ m x hx _; simp at hx
  | cons a hs ih =>
    intro hn m x hx h1
    have hn2 := List.nodup_cons.1 hn
    cases m with
    | zero => simp at hx
    | succ m =>
      rw [List.take_succ_cons] at hx
      rcases List.mem_cons.1 hx with e | m2
      · subst e; exact absurd (hs.subset h1) hn2.1
      · have := ih hn2.2 m x m2 h1
        exact List.take_subset_take_left _ (Nat.le_succ m) this
  | cons_cons a hs ih =>
    intro hn m x hx h1
    have hn2 := List.nodup_cons.1 hn
    cases m with
    | zero => simp at hx
    | succ m =>
      rw [List.take_succ_cons] at hx ⊢
      rcases List.mem_cons.1 hx with e | m2
      · simp [e]
      · rcases List.mem_cons.1 h1 with e | h1
        · simp [e]
        · exact List.mem_cons_of_mem _ (ih hn2.2 m x m2 h1)
def rotL (C : List Int) (k : Nat) : List Int := C.drop k ++ C.take k
theorem keepL_rot {C : List Int} {k : Nat} (hk : k < C.length) : keepL C k = (rotL C k).take 3 := by
  unfold keepL rotL
  rw [List.drop_eq_getElem_cons hk, List.getD_eq_getElem?_getD, List.getElem?_eq_getElem hk]
  rfl
theorem rotL_perm (C : List Int) (k : Nat) : (rotL C k).Perm C := by
  have := @List.perm_append_comm _ (C.drop k) (C.take k)
  rw [List.take_append_drop] at this
  exact this
theorem rot_rise {f : Int → Int} {C : List Int} (hC : C.Pairwise (fun a b => f a < f b)) {x : Int} {k : Nat} (hk : ownerN (C.map f) x = (k : Int)) (hkl : k < C.length) : (rotL C k).Pairwise (fun a b => rlt x (f a) (f b)) := by
  have hP : ∀ j, j < C.length → (C.map f).getD j 0 = f (C.getD j 0) := fun j hj => by
    rw [List.getD_eq_getElem?_getD, List.getD_eq_getElem?_getD, List.getElem?_map, List.getElem?_eq_getElem hj]; rfl
  rcases owner_spec (C.map f) x (by simp; omega) with ⟨h0, hall⟩ | ⟨k', hk', he, hlo, hx⟩
  · have e : k = 0 := by rw [h0] at hk; omega
    subst e
    show (C.drop 0 ++ C.take 0).Pairwise _
    simp only [List.drop_zero, List.take_zero, List.append_nil]
    have hlt : ∀ y ∈ C, f y < x := fun y hy => by
      obtain ⟨j, hj, e⟩ := List.getElem_of_mem hy
      have := hall j (by simpa using hj)
      rw [hP j hj, List.getD_eq_getElem?_getD, List.getElem?_eq_getElem hj] at this
      rw [← e]; exact this
    exact List.Pairwise.imp_of_mem (fun {a b} ha hb hab => .inr (.inr ⟨hlt a ha, hlt b hb, hab⟩)) hC
  · have e : k = k' := by rw [he] at hk; omega
    subst e
    have hi := List.pairwise_iff_getElem.1 hC
    have hge : ∀ y ∈ C.drop k, x ≤ f y := fun y hy => by
      obtain ⟨j, hj, e⟩ := List.getElem_of_mem hy
      rw [List.getElem_drop] at e
      rw [hP k hkl, List.getD_eq_getElem?_getD, List.getElem?_eq_getElem hkl] at hx
      have hx : x ≤ f C[k] := hx
      have hj2 : k + j < C.length := by simp at hj; omega
      rcases Nat.eq_zero_or_pos j with q | q
      · subst q; rw [← e]; exact hx
      · have := hi k (k + j) hkl hj2 (by omega)
        rw [← e]; omega
    have hlt : ∀ y ∈ C.take k, f y < x := fun y hy => by
      obtain ⟨j, hj, e⟩ := List.getElem_of_mem hy
      rw [List.getElem_take] at e
      have hj2 : j < k := by simp at hj; omega
      have := hlo j hj2
      rw [hP j (by omega), List.getD_eq_getElem?_getD, List.getElem?_eq_getElem (show j < C.length by omega)] at this
      rw [← e]; exact this
    unfold rotL
    refine List.pairwise_append.2 ⟨?_, ?_, fun a ha b hb => .inl ⟨hge a ha, hlt b hb⟩⟩
    · exact List.Pairwise.imp_of_mem (fun {a b} ha hb hab => .inr (.inl ⟨hge a ha, hge b hb, hab⟩)) (hC.sublist (List.drop_sublist _ _))
    · exact List.Pairwise.imp_of_mem (fun {a b} ha hb hab => .inr (.inr ⟨hlt a ha, hlt b hb, hab⟩)) (hC.sublist (List.take_sublist _ _))
/-- Whoever keeps it among more, and was there, kept it. -/
theorem keep_few {f f2 : Int → Int} {C C2 : List Int} (hC : C.Pairwise (fun a b => f a < f b)) (hC2 : C2.Pairwise (fun a b => f2 a < f2 b)) (hsub : ∀ y ∈ C, y ∈ C2) (hf : ∀ y ∈ C, f2 y = f y) {x : Int} {k k2 : Nat} (hk : ownerN (C.map f) x = (k : Int)) (hkl : k < C.length) (hk2 : ownerN (C2.map f2) x = (k2 : Int)) (hkl2 : k2 < C2.length) :
    ∀ y ∈ keepL C2 k2, y ∈ C → y ∈ keepL C k := by
  intro y hy hyC
  rw [keepL_rot hkl2] at hy
  rw [keepL_rot hkl]
  have r1 := rot_rise hC hk hkl
  have r2 := rot_rise hC2 hk2 hkl2
  have r1' : (rotL C k).Pairwise (fun a b => rlt x (f2 a) (f2 b)) := List.Pairwise.imp_of_mem (fun {a b} ha hb hab => by
    rw [hf a ((rotL_perm C k).mem_iff.1 ha), hf b ((rotL_perm C k).mem_iff.1 hb)]; exact hab) r1
  have hs := sub_rise (fun a b h => rlt_asy h) _ _ r2 r1' (fun z hz => (rotL_perm C2 k2).mem_iff.2 (hsub z ((rotL_perm C k).mem_iff.1 hz)))
  have hn : (rotL C2 k2).Nodup := r2.imp (fun h e => by rw [e] at h; exact rlt_irr _ _ h)
  exact take_sub hs hn 3 y hy ((rotL_perm C k).mem_iff.2 hyC)
/-- One who comes: every move goes to it, and there is at most one. -/
theorem moves_few {C K T : List Int} {s : ByteArray} {o n : Int} (hT : T.Nodup) (hn : ∀ y ∈ T, y ∉ K → y = n) : movesL s o K T = [] ∨ movesL s o K T = [(s, o, n)] := by
  have hF : ∀ L : List Int, L.Nodup → (∀ y ∈ L, y = n) → L = [] ∨ L = [n] := fun L hl h => by
    match L, hl, h with
    | [], _, _ => exact .inl rfl
    | [a], _, h => exact .inr (by rw [h a (by simp)])
    | a :: b :: t, hl, h =>
      have e1 := h a (by simp)
      have e2 := h b (by simp)
      subst e1
      subst e2
      simp at hl
  unfold movesL
  rcases hF (T.filter (fun x => !decide (x ∈ K))) (hT.sublist List.filter_sublist) (fun y hy => by
    have := List.mem_filter.1 hy
    exact hn y this.1 (by simpa using this.2)) with e | e
  · rw [e]; exact .inl rfl
  · rw [e]; exact .inr rfl

/-! Texts: sorted and each once they rise. -/
theorem bl_lt : ∀ x y : List UInt8, Op.bytesLess x y = true → x < y
  | _, [], h => by simp [Op.bytesLess] at h
  | [], _ :: _, _ => List.nil_lt_cons _ _
  | a :: x, b :: y, h => by
    simp only [Op.bytesLess, Bool.or_eq_true, decide_eq_true_eq, Bool.and_eq_true, beq_iff_eq] at h
    rw [List.cons_lt_cons_iff]
    rcases h with h | ⟨h1, h2⟩
    · exact .inl h
    · exact .inr ⟨h1, bl_lt x y h2⟩
theorem lt_bl {x y : List UInt8} (h : x ≤ y) (hne : x ≠ y) : Op.bytesLess x y = true := by
  cases h1 : Op.bytesLess x y with
  | true => rfl
  | false =>
    cases h2 : Op.bytesLess y x with
    | true => exact absurd (bl_lt y x h2) (List.not_lt.2 h)
    | false => exact absurd (bl_tri x y h1 h2) hne
theorem compactS_rise {Z : List (List UInt8)} (h : Z.Pairwise (fun x y => x ≤ y)) : (Lib.compact Z).Pairwise (fun x y => x ≤ y ∧ x ≠ y) := by
  unfold Lib.compact Lib.compactUpTo
  rw [List.pairwise_map]
  refine List.Pairwise.imp_of_mem (R := (· < ·)) (fun {i j} hi hj hij => ?_) (List.pairwise_lt_range.filter _)
  have hi2 := List.mem_filter.1 hi
  have hj2 := List.mem_filter.1 hj
  have hjl : j < Z.length := List.mem_range.1 hj2.1
  have hil : i < Z.length := by omega
  have hk := hj2.2
  have hp := List.pairwise_iff_getElem.1 h
  have e1 : Z.toArray[i]! = Z[i] := by simp [hil]
  have e2 : Z.toArray[j]! = Z[j] := by simp [hjl]
  have e3 : Z.toArray[j - 1]! = Z[j - 1] := by simp [show j - 1 < Z.length by omega]
  unfold Lib.keeps at hk
  rw [e2, e3] at hk
  have hk := of_decide_eq_true hk
  rw [e1, e2]
  have hle : Z[i] ≤ Z[j] := hp i j hil hjl hij
  refine ⟨hle, fun e => ?_⟩
  rcases hk with q | q
  · omega
  · have h1 : Z[j - 1] ≤ Z[j] := hp (j - 1) j (by omega) hjl (by omega)
    have h2 : Z[j] ≤ Z[j - 1] := by
      rw [← e]
      rcases Nat.lt_or_ge i (j - 1) with z | z
      · exact hp i (j - 1) hil (by omega) z
      · have : i = j - 1 := by omega
        subst this
        exact List.le_refl _
    exact q (List.le_antisymm h2 h1)
theorem onceS_rise (L : List ByteArray) : (onceS (sortS L)).Pairwise (fun a b => ltS a b = true) := by
  have e : (sortS L).map bytesL = (L.map bytesL).mergeSort (fun x y => decide (x ≤ y)) := by
    unfold sortS
    rw [List.map_map, show (bytesL ∘ ofBytes) = id from funext bytes_of, List.map_id]
  unfold onceS
  rw [e, List.pairwise_map]
  have hs : ((L.map bytesL).mergeSort (fun x y => decide (x ≤ y))).Pairwise (fun x y => x ≤ y) := by
    have := List.pairwise_mergeSort (le := fun (x y : List UInt8) => decide (x ≤ y)) (fun a b c h1 h2 => by simp at *; exact List.le_trans h1 h2) (fun a b => by simp; exact List.le_total a b) (L.map bytesL)
    exact this.imp (fun h => by simpa using h)
  exact (compactS_rise hs).imp (fun {x y} h => by
    unfold ltS
    rw [ByteArray.toList_eq, ByteArray.toList_eq]
    show Op.bytesLess (ofBytes x).data.toList (ofBytes y).data.toList = true
    exact lt_bl (by simpa [ofBytes] using h.1) (by simpa [ofBytes] using h.2))
end Go.Proofs.YtmajlldfiiokoaaGreatDoor

/- The plan when one comes. -/
namespace Go.Proofs.YtmajlldfiiokoaaGreatDoor
open Go.ChangeShapes Go.WideShapes Go.ChangeAt Go.RowKit Go.Deep
set_option linter.unusedVariables false

theorem join_few {R : Rg} (hi : Inv R) {n id : Int} (hc : R.joinC n id 0 = 0) : R.lives n = false ∧ (∀ x, (R.join n id 0).lives x = if x = n then true else R.lives x) ∧ (∀ x, x ≠ n → (R.join n id 0).idOf x = R.idOf x) := by
  have e : R.join n id 0 = R.joined n id (R.ahead id 0) := if_pos hc
  obtain ⟨_, _, hp⟩ := joinC_zero hc
  rw [e]
  refine ⟨?_, fun x => lives_joined R n id _ x, fun x hx => ?_⟩
  · cases h : R.lives n with
    | false => rfl
    | true => have := hi.pl n h; rw [hp] at this; cases this
  · unfold Rg.idOf
    rw [pl_joined, if_neg hx]
theorem cir_sub {R : Rg} (hi : Inv R) {n id : Int} (hc : R.joinC n id 0 = 0) {C C2 : List Int} (h1 : Cir R C) (h2 : Cir (R.join n id 0) C2) : n ∉ C ∧ (∀ y ∈ C, y ∈ C2) ∧ (∀ y ∈ C2, y ∉ C → y = n) ∧ ∀ y ∈ C, (R.join n id 0).idOf y = R.idOf y := by
  obtain ⟨a1, a2, a3⟩ := join_few hi hc
  have hn : n ∉ C := fun h => by have := (h1.mem n).1 h; rw [a1] at this; cases this
  refine ⟨hn, fun y hy => (h2.mem y).2 ?_, fun y hy hno => ?_, fun y hy => a3 y (fun e => hn (e ▸ hy))⟩
  · rw [a2]; split
    · rfl
    · exact (h1.mem y).1 hy
  · have := (h2.mem y).1 hy
    rw [a2] at this
    by_cases e : y = n
    · exact e
    · rw [if_neg e] at this; exact absurd ((h1.mem y).2 this) hno
theorem mvis_few {R : Rg} (hi : Inv R) {n id : Int} (hc : R.joinC n id 0 = 0) {C C2 : List Int} (h1 : Cir R C) (h2 : Cir (R.join n id 0) C2) {s : ByteArray} {M : List Mv} (h : MvIs R (R.join n id 0) C C2 C.length C2.length s M) :
    M = [] ∨ ∃ o, M = [(s, o, n)] ∧ o ≠ n ∧ (R.join n id 0).lives o = true := by
  obtain ⟨k1, k2, T, e1, l1, e2, l2, hp, _, rfl⟩ := h
  obtain ⟨b1, b2, b3, b4⟩ := cir_sub hi hc h1 h2
  have hnd : C2.Nodup := h2.rise.imp (fun h e => by rw [e] at h; omega)
  have hT : T.Nodup := hp.nodup_iff.2 (keepL_nodup hnd l2)
  have hkf := keep_few h1.rise h2.rise b2 b4 e1 l1 e2 l2
  rcases moves_few (C := C) (K := keepL C k1) (s := s) (o := C.getD k1 0) (n := n) hT (fun y hy hno => by
    have hy2 := hp.mem_iff.1 hy
    by_cases e : y ∈ C
    · exact absurd (hkf y hy2 e) hno
    · exact b3 y (keepL_sub l2 hy2) e) with e | e
  · exact .inl e
  · have ho : C.getD k1 0 ∈ C := by rw [List.getD_eq_getElem?_getD, List.getElem?_eq_getElem l1]; simp
    exact .inr ⟨_, e, fun q => b1 (q ▸ ho), (h2.mem _).1 (b2 _ ho)⟩
theorem catM_succ (F : Nat → List Mv) (k : Nat) : catM F (k + 1) = catM F k ++ F k := by
  unfold catM
  rw [List.range_succ, List.flatMap_append]
  simp
theorem catM_rise {N : List ByteArray} (hN : N.Pairwise (fun a b => ltS a b = true)) {F : Nat → List Mv} {n : Int} {P : Int → Prop} (hF : ∀ j, j < N.length → F j = [] ∨ ∃ o, F j = [(N.getD j ByteArray.empty, o, n)] ∧ P o) :
    ∀ k, k ≤ N.length → (catM F k).Pairwise (fun a b => ltS a.1 b.1 = true) ∧ (∀ x ∈ catM F k, x.2.2 = n ∧ P x.2.1) ∧ ∀ x ∈ catM F k, ∃ j, ∃ hj : j < N.length, j < k ∧ x.1 = N[j]
  | 0, _ => by simp [catM]
  | k + 1, hk => by
    obtain ⟨i1, i2, i3⟩ := catM_rise hN hF k (by omega)
    rw [catM_succ]
    have hg : N.getD k ByteArray.empty = N[k] := by rw [List.getD_eq_getElem?_getD, List.getElem?_eq_getElem (show k < N.length by omega)]; rfl
    rcases hF k (by omega) with e | ⟨o, e, ho⟩
    · rw [e, List.append_nil]
      exact ⟨i1, i2, fun x hx => by obtain ⟨j, hj, h1, h2⟩ := i3 x hx; exact ⟨j, hj, by omega, h2⟩⟩
    · rw [e]
      refine ⟨List.pairwise_append.2 ⟨i1, by simp, fun a ha b hb => ?_⟩, fun x hx => ?_, fun x hx => ?_⟩
      · obtain ⟨j, hj, h1, h2⟩ := i3 a ha
        simp at hb
        subst hb
        show ltS a.1 (N.getD k ByteArray.empty) = true
        rw [h2, hg]
        exact (List.pairwise_iff_getElem.1 hN) j k hj (by omega) h1
      · rcases List.mem_append.1 hx with h | h
        · exact i2 x h
        · simp at h; subst h; exact ⟨rfl, ho⟩
      · rcases List.mem_append.1 hx with h | h
        · obtain ⟨j, hj, h1, h2⟩ := i3 x h; exact ⟨j, hj, by omega, h2⟩
        · simp at h; subst h; exact ⟨k, by omega, by omega, hg⟩
end Go.Proofs.YtmajlldfiiokoaaGreatDoor
