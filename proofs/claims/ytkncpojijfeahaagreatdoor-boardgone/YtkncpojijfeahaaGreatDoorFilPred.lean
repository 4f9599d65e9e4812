/- The reader of package filter: markAndString, numbers. -/
import Derived.Test.YtkncpojijfeahaaGreatDoorFilStr
namespace Go.Proofs.YtkncpojijfeahaaGreatDoor
open Go.ChangeShapes Go.WideShapes Go.ChangeAt Go.RowKit
set_option linter.unusedVariables false

def rMarkStr (m l : List UInt8) : Ps (List UInt8) := match rMark m l with
  | .ok _ r => rStr r
  | .fail e r => .fail e r
def rNums (l : List UInt8) : Ps (Int × Int) := match rThis [105, 110] l with
  | .fail e r => .fail e r
  | .ok _ r => match rNumber r with
    | .fail e r => .fail e r
    | .ok lo r => match rMark [46, 46] r with
      | .fail e r => .fail e r
      | .ok _ r => match rNumber r with
        | .fail e r => .fail e r
        | .ok hi r => .ok (lo, hi) r
def numsV : Ps (Int × Int) → Value
  | .ok v _ => .tuple #[.int .i64 v.1, .int .i64 v.2, .nilIface]
  | .fail e _ => .tuple #[.int .i64 0, .int .i64 0, ec e]

set_option maxHeartbeats 1000000 in
theorem markStr_any (p : Nat) (s m : ByteArray) (k : Nat) (w : World) (h : Rd w p s k) (hs : s.size ≤ 1000) (hm : m.size ≤ 10) :
    Calls Tryz.prog 110 #[.pointer (some ⟨p, 0, none⟩), .string m] w fun e w' => e = .returned (wordV (rMarkStr m.data.toList (dr s k))) ∧ ∃ k', Rd w' p s k' ∧ dr s k' = (rMarkStr m.data.toList (dr s k)).left ∧ Kp w w' p := by
  go_enter Tryz.func110, Tryz.ntmps110
  go_wp2_with fail
  refine (mark_any p s m k _ h hs hm).mono ?_
  rintro e w1 ⟨rfl, b, hR, hb, hK⟩
  cases hres : rMark m.data.toList (dr s k) with
  | fail ee r =>
    rw [hres] at hb
    have HW : Hid (rMarkStr m.data.toList (dr s k) = .fail ee r) := by
      show rMarkStr m.data.toList (dr s k) = .fail ee r
      unfold rMarkStr; rw [hres]
    have HR : Hid (Rd w1 p s b ∧ dr s b = r ∧ Kp w w1 p) := ⟨hR, hb, hK⟩
    clear hb hR hK hres
    cases ee
    all_goals
      simp only [errV, ec]
      go_wp2
      go_ret2
      rw [HW.out]
      exact ⟨rfl, b, HR.out.1, HR.out.2.1, HR.out.2.2⟩
  | ok u r =>
    rw [hres] at hb
    have hb' : dr s b = r := hb
    have HW : Hid (rMarkStr m.data.toList (dr s k) = rStr (dr s b)) := by
      show rMarkStr m.data.toList (dr s k) = rStr (dr s b)
      unfold rMarkStr; rw [hres, hb']
    have HR : Hid (Kp w w1 p) := hK
    clear hb hb' hK hres
    simp only [errV]
    go_wp2_with fail
    refine (str_r p s b _ hR hs).mono ?_
    rintro e w2 ⟨rfl, b2, hR2, hb2, hK2⟩
    have HR2 : Hid (Rd w2 p s b2 ∧ dr s b2 = (rStr (dr s b)).left ∧ Kp w w2 p) := ⟨hR2, hb2, HR.out.trans hK2⟩
    clear hR2 hb2 hK2 hR
    cases hres2 : rStr (dr s b) with
    | fail ee r2 =>
      rw [hres2] at HR2 HW
      clear hres2
      cases ee
      all_goals
        simp only [wordV, ec]
        go_wp2
        go_ret2
        rw [HW.out]
        exact ⟨rfl, b2, HR2.out.1, HR2.out.2.1, HR2.out.2.2⟩
    | ok v r2 =>
      rw [hres2] at HR2 HW
      clear hres2
      simp only [wordV]
      generalize hbv : ba v = V
      have HV : Hid (ba v = V) := hbv
      clear hbv
      go_wp2
      go_ret2
      rw [HW.out]
      exact ⟨by simp only [wordV, HV.out]; rfl, b2, HR2.out.1, HR2.out.2.1, HR2.out.2.2⟩

set_option maxHeartbeats 2000000 in
theorem numbers_any (p : Nat) (s : ByteArray) (k : Nat) (w0 w : World) (E : Env w0) (hB : Below w0.heap.size w0 w) (hp : w0.heap.size ≤ p) (h : Rd w p s k) (hs : s.size ≤ 1000) :
    Calls Tryz.prog 111 #[.pointer (some ⟨p, 0, none⟩)] w fun e w' => e = .returned (numsV (rNums (dr s k))) ∧ ∃ k', Rd w' p s k' ∧ dr s k' = (rNums (dr s k)).left ∧ Kp w w' p := by
  have HE : Hid (Env w0 ∧ Below w0.heap.size w0 w ∧ w0.heap.size ≤ p) := ⟨E, hB, hp⟩
  clear E hB
  have ei : (⟨#[105, 110]⟩ : ByteArray).toList = [105, 110] := by simp [ByteArray.toList_eq]
  go_enter Tryz.func111, Tryz.ntmps111
  go_wp2_with fail
  refine (this_any p s ⟨#[105, 110]⟩ k _ h hs).mono ?_
  rintro e w1 ⟨rfl, b, hR, hb, hK⟩
  rw [ei] at hb ⊢
  clear ei
  cases hres : rThis [105, 110] (dr s k) with
  | fail ee r =>
    rw [hres] at hb
    have HW : Hid (rNums (dr s k) = .fail ee r) := by
      show rNums (dr s k) = .fail ee r
      unfold rNums; rw [hres]
    have HR : Hid (Rd w1 p s b ∧ dr s b = r ∧ Kp w w1 p) := ⟨hR, hb, hK⟩
    clear hb hR hK hres
    cases ee
    all_goals
      simp only [errV, ec]
      go_wp2
      refine bodyPost_ret (v := numsV (rNums (dr s k))) (by rw [HW.out]; simp [results, Tryz.results111, go_sem, numsV, ec]) rfl ⟨rfl, b, HR.out.1, by rw [HW.out]; exact HR.out.2.1, HR.out.2.2⟩
  | ok u r =>
    rw [hres] at hb
    have hb' : dr s b = r := hb
    have HK1 : Hid (Kp w w1 p ∧ Below w0.heap.size w0 w1) := ⟨hK, hK.below HE.out.2.1 hp HE.out.2.1.size⟩
    have HT : Hid (rThis [105, 110] (dr s k) = .ok () (dr s b)) := by rw [hb']; exact hres
    clear hb hb' hK hres
    simp only [errV]
    go_wp2_with fail
    refine (number_any p s b w0 _ HE.out.1 HK1.out.2 hp hR hs).mono ?_
    rintro e w2 ⟨rfl, b2, hR2, hb2, hK2⟩
    clear hR
    cases hres2 : rNumber (dr s b) with
    | fail ee r2 =>
      rw [hres2] at hb2
      have HW : Hid (rNums (dr s k) = .fail ee r2) := by
        show rNums (dr s k) = .fail ee r2
        unfold rNums; rw [HT.out]; simp only [hres2]
      have HR : Hid (Rd w2 p s b2 ∧ dr s b2 = r2 ∧ Kp w w2 p) := ⟨hR2, hb2, HK1.out.1.trans hK2⟩
      clear hb2 hR2 hK2 hres2
      cases ee
      all_goals
        simp only [numV, ec]
        go_wp2
        refine bodyPost_ret (v := numsV (rNums (dr s k))) (by rw [HW.out]; simp [results, Tryz.results111, go_sem, numsV, ec]) rfl ⟨rfl, b2, HR.out.1, by rw [HW.out]; exact HR.out.2.1, HR.out.2.2⟩
    | ok lo r2 =>
      rw [hres2] at hb2
      have hb2' : dr s b2 = r2 := hb2
      have HK2 : Hid (Kp w w2 p ∧ Below w0.heap.size w0 w2) := ⟨HK1.out.1.trans hK2, hK2.below HK1.out.2 hp HK1.out.2.size⟩
      have HT2 : Hid (rNumber (dr s b) = .ok lo (dr s b2)) := by rw [hb2']; exact hres2
      clear hb2 hb2' hK2 hres2 HK1
      simp only [numV]
      go_wp2_with fail
      refine (mark_any p s ⟨#[46, 46]⟩ b2 _ hR2 hs (by decide)).mono ?_
      rintro e w3 ⟨rfl, b3, hR3, hb3, hK3⟩
      have em : (⟨#[46, 46]⟩ : ByteArray).data.toList = [46, 46] := rfl
      rw [em] at hb3 ⊢
      clear em hR2
      cases hres3 : rMark [46, 46] (dr s b2) with
      | fail ee r3 =>
        rw [hres3] at hb3
        have HW : Hid (rNums (dr s k) = .fail ee r3) := by
          show rNums (dr s k) = .fail ee r3
          unfold rNums; rw [HT.out]; simp only [HT2.out, hres3]
        have HR : Hid (Rd w3 p s b3 ∧ dr s b3 = r3 ∧ Kp w w3 p) := ⟨hR3, hb3, HK2.out.1.trans hK3⟩
        clear hb3 hR3 hK3 hres3
        cases ee
        all_goals
          simp only [errV, ec]
          go_wp2
          refine bodyPost_ret (v := numsV (rNums (dr s k))) (by rw [HW.out]; simp [results, Tryz.results111, go_sem, numsV, ec]) rfl ⟨rfl, b3, HR.out.1, by rw [HW.out]; exact HR.out.2.1, HR.out.2.2⟩
      | ok u3 r3 =>
        rw [hres3] at hb3
        have hb3' : dr s b3 = r3 := hb3
        have HK3 : Hid (Kp w w3 p ∧ Below w0.heap.size w0 w3) := ⟨HK2.out.1.trans hK3, hK3.below HK2.out.2 hp HK2.out.2.size⟩
        have HT3 : Hid (rMark [46, 46] (dr s b2) = .ok () (dr s b3)) := by rw [hb3']; exact hres3
        clear hb3 hb3' hK3 hres3 HK2
        simp only [errV]
        go_wp2_with fail
        refine (number_any p s b3 w0 _ HE.out.1 HK3.out.2 hp hR3 hs).mono ?_
        rintro e w4 ⟨rfl, b4, hR4, hb4, hK4⟩
        clear hR3
        cases hres4 : rNumber (dr s b3) with
        | fail ee r4 =>
          rw [hres4] at hb4
          have HW : Hid (rNums (dr s k) = .fail ee r4) := by
            show rNums (dr s k) = .fail ee r4
            unfold rNums; rw [HT.out]; simp only [HT2.out, HT3.out, hres4]
          have HR : Hid (Rd w4 p s b4 ∧ dr s b4 = r4 ∧ Kp w w4 p) := ⟨hR4, hb4, HK3.out.1.trans hK4⟩
          clear hb4 hR4 hK4 hres4
          cases ee
          all_goals
            simp only [numV, ec]
            go_wp2
            refine bodyPost_ret (v := numsV (rNums (dr s k))) (by rw [HW.out]; simp [results, Tryz.results111, go_sem, numsV, ec]) rfl ⟨rfl, b4, HR.out.1, by rw [HW.out]; exact HR.out.2.1, HR.out.2.2⟩
        | ok hi r4 =>
          rw [hres4] at hb4
          have HW : Hid (rNums (dr s k) = .ok (lo, hi) r4) := by
            show rNums (dr s k) = .ok (lo, hi) r4
            unfold rNums; rw [HT.out]; simp only [HT2.out, HT3.out, hres4]
          have HR : Hid (Rd w4 p s b4 ∧ dr s b4 = r4 ∧ Kp w w4 p) := ⟨hR4, hb4, HK3.out.1.trans hK4⟩
          clear hb4 hR4 hK4 hres4
          simp only [numV]
          go_wp2
          refine bodyPost_ret (v := numsV (rNums (dr s k))) (by rw [HW.out]; simp [results, Tryz.results111, go_sem, numsV]) rfl ⟨rfl, b4, HR.out.1, by rw [HW.out]; exact HR.out.2.1, HR.out.2.2⟩
end Go.Proofs.YtkncpojijfeahaaGreatDoor
