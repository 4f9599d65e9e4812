/- table.order; slices.BinarySearchFunc of entries that rise. -/
import Derived.Test.YtffdknjocmfmfaaTbJoin
import Derived.Deep.RegionWith
import Derived.Deep.RegionHeld3
import Derived.Deep.CutBlock
import Derived.Deep.DeepCutAuto
namespace Go.Proofs.Ytffdknjocmfmfaa
open Go.ChangeShapes Go.WideShapes Go.ChangeAt Go.RowKit
set_option linter.unusedVariables false

def cmpS (x y : ByteArray) : Int := if ltS x y then -1 else if x.toList == y.toList then 0 else 1
def cmpI (x y : Int) : Int := if x < y then -1 else if y < x then 1 else 0
def cmpO (x y : Int) : Int := if x = 0 then y else x
def cmpK (a b : ByteArray × Int) : Int := cmpO (cmpS a.1 b.1) (cmpI a.2 b.2)
theorem cmpK_neg (a b : ByteArray × Int) : (cmpK a b < 0) ↔ ltK a b = true := by
  unfold cmpK cmpO cmpS cmpI ltK
  by_cases h1 : ltS a.1 b.1 = true
  · simp [h1]
  · have h1' : ltS a.1 b.1 = false := by simpa using h1
    by_cases h2 : a.1.toList = b.1.toList
    · simp only [h1', h2, Bool.false_eq_true, if_false, beq_self_eq_true, if_true, Bool.false_or, Bool.true_and, decide_eq_true_eq]
      by_cases h3 : a.2 < b.2
      · simp [h3]
      · by_cases h4 : b.2 < a.2 <;> simp [h3, h4]
    · simp [h1', h2]
theorem cmpK_zero (a b : ByteArray × Int) : (cmpK a b = 0) ↔ a = b := by
  unfold cmpK cmpO cmpS cmpI
  by_cases h1 : ltS a.1 b.1 = true
  · have : a ≠ b := fun e => by rw [e, linS.irr] at h1; cases h1
    simp [h1, this]
  · have h1' : ltS a.1 b.1 = false := by simpa using h1
    by_cases h2 : a.1.toList = b.1.toList
    · have e := bytes_inj h2
      simp only [h1', h2, Bool.false_eq_true, if_false, beq_self_eq_true, if_true]
      by_cases h3 : a.2 < b.2
      · have : a ≠ b := fun q => by rw [q] at h3; omega
        simp [h3, this]
      · by_cases h4 : b.2 < a.2
        · have : a ≠ b := fun q => by rw [q] at h4; omega
          simp [h3, h4, this]
        · have : a = b := Prod.ext e (by omega)
          simp [this]
    · have : a ≠ b := fun q => h2 (by rw [q])
      simp [h1', h2, this]
theorem cnan_i (x : Int) (w : World) : Calls Try.prog 40 #[.int .i64 x] w fun e w' => e = .returned (.bool false) ∧ w' = w := by
  go_enter Try.func40, Try.ntmps40
  go_wp2
  go_ret
  exact ⟨by simp, rfl⟩
theorem cmps_any (x y : ByteArray) (w : World) : Calls Try.prog 29 #[.string x, .string y] w fun e w' => e = .returned (.int .i64 (cmpS x y)) ∧ w' = w := by
  by_cases h1 : Op.bytesLess x.toList y.toList = true
  · have E : Hid (cmpS x y = -1) := (by simp [cmpS, ltS, h1] : cmpS x y = -1)
    go_enter Try.func29, Try.ntmps29
    go_wp2_with (go_at_call 39; refine (cnan_s _ _).mono ?_; rintro e w' ⟨rfl, rfl⟩)
    go_ret
    exact ⟨ret_i E.out.symm, rfl⟩
  · have h1' : Op.bytesLess x.toList y.toList = false := by simpa using h1
    by_cases h2 : x.toList = y.toList
    · have h2' : (x.toList == y.toList) = true := by simpa using h2
      have E : Hid (cmpS x y = 0) := (by simp [cmpS, ltS, h1', h2'] : cmpS x y = 0)
      clear h1 h2
      go_enter Try.func29, Try.ntmps29
      go_wp2_with (go_at_call 39; refine (cnan_s _ _).mono ?_; rintro e w' ⟨rfl, rfl⟩)
      go_ret
      exact ⟨ret_i E.out.symm, rfl⟩
    · have h2' : (x.toList == y.toList) = false := by simpa using h2
      have E : Hid (cmpS x y = 1) := (by simp [cmpS, ltS, h1', h2'] : cmpS x y = 1)
      clear h1
      go_enter Try.func29, Try.ntmps29
      go_wp2_with (go_at_call 39; refine (cnan_s _ _).mono ?_; rintro e w' ⟨rfl, rfl⟩)
      go_ret
      exact ⟨ret_i E.out.symm, rfl⟩
theorem cmpi_any (x y : Int) (w : World) : Calls Try.prog 30 #[.int .i64 x, .int .i64 y] w fun e w' => e = .returned (.int .i64 (cmpI x y)) ∧ w' = w := by
  by_cases h1 : x < y
  · have E : Hid (cmpI x y = -1) := (by simp [cmpI, h1] : cmpI x y = -1)
    go_enter Try.func30, Try.ntmps30
    go_wp2_with (go_at_call 40; refine (cnan_i _ _).mono ?_; rintro e w' ⟨rfl, rfl⟩)
    go_ret
    exact ⟨ret_i E.out.symm, rfl⟩
  · by_cases h2 : y < x
    · have E : Hid (cmpI x y = 1) := (by simp [cmpI, h1, h2] : cmpI x y = 1)
      go_enter Try.func30, Try.ntmps30
      go_wp2_with (go_at_call 40; refine (cnan_i _ _).mono ?_; rintro e w' ⟨rfl, rfl⟩)
      go_ret
      exact ⟨ret_i E.out.symm, rfl⟩
    · have E : Hid (cmpI x y = 0) := (by simp [cmpI, h1, h2] : cmpI x y = 0)
      go_enter Try.func30, Try.ntmps30
      go_wp2_with (go_at_call 40; refine (cnan_i _ _).mono ?_; rintro e w' ⟨rfl, rfl⟩)
      go_ret
      exact ⟨ret_i E.out.symm, rfl⟩
set_option maxHeartbeats 1000000 in
theorem or_any (b : Nat) (x y : Int) (w : World) (hb : b < w.heap.size) (h0 : w.cell? ⟨b, 0, none⟩ = some (.int .i64 x)) (h1 : w.cell? ⟨b, 1, none⟩ = some (.int .i64 y)) :
    Calls Try.prog 28 #[.slice (some ⟨b, 0, none⟩) 2 2] w fun e w' => e = .returned (.int .i64 (cmpO x y)) ∧ w' = w := by
  go_enter Try.func28, Try.ntmps28
  go_wp2
  go_loop [8] (fun s => ∃ j : Nat, s = .int .i64 j ∧ j ≤ 2 ∧ (1 ≤ j → x = 0) ∧ (2 ≤ j → y = 0)) (fun s => 2 - (intOf s).toNat)
  case atStart => exact ⟨0, rfl, by omega, fun h => by omega, fun h => by omega⟩
  case round =>
    obtain ⟨j, rfl, hj, hx, hy⟩ := hrel
    by_cases j0 : j = 0
    · subst j0
      clear hx hy
      by_cases hx0 : x = 0
      · subst hx0
        go_wp2
        go_round
        case rel => exact ⟨1, rfl, by omega, fun _ => by simp, fun h => by omega⟩
        case measure => simp [intOf]
      · have hx1 : (x != 0) = true := by simpa using hx0
        have E : Hid (cmpO x y = x) := (by simp [cmpO, hx0] : cmpO x y = x)
        go_wp2
        go_ret
        exact ⟨ret_i E.out.symm, rfl⟩
    · by_cases j1 : j = 1
      · subst j1
        have hx0 := hx (by omega)
        subst hx0
        clear hx hy
        by_cases hy0 : y = 0
        · subst hy0
          go_wp2
          go_round
          case rel => exact ⟨2, rfl, by omega, fun _ => by simp, fun _ => by simp⟩
          case measure => simp [intOf]
        · have hy1 : (y != 0) = true := by simpa using hy0
          have E : Hid (cmpO 0 y = y) := (by simp [cmpO] : cmpO 0 y = y)
          go_wp2
          go_ret
          exact ⟨ret_i E.out.symm, rfl⟩
      · obtain rfl : j = 2 := by omega
        have hx0 := hx (by omega)
        have hy0 := hy (by omega)
        subst hx0 hy0
        go_wp2
        go_ret
        exact ⟨ret_i (by simp [cmpO]), rfl⟩

/-- An entry by value. -/
def Ep.val (x : Ep) : Value := .agg #[.string x.gr, .int .i64 x.ch, .slice x.a x.ln x.cp, .bool x.any, .int .i64 x.till]
set_option maxRecDepth 100000 in
set_option maxHeartbeats 600000 in
theorem order_any (g1 : ByteArray) (c1 : Int) (f1 : Option Addr) (l1 p1 : Nat) (a1 : Bool) (t1 : Int) (g2 : ByteArray) (c2 : Int) (f2 : Option Addr) (l2 p2 : Nat) (a2 : Bool) (t2 : Int) (w : World) :
    Calls Try.prog 16 #[.agg #[.string g1, .int .i64 c1, .slice f1 l1 p1, .bool a1, .int .i64 t1], .agg #[.string g2, .int .i64 c2, .slice f2 l2 p2, .bool a2, .int .i64 t2]] w fun e w' => e = .returned (.int .i64 (cmpK (g1, c1) (g2, c2))) ∧ Below w.heap.size w w' := by
  obtain ⟨W1, hW1⟩ : ∃ W1, W1 = (w.alloc (.cells #[.string g1, .int .i64 c1, .slice f1 l1 p1, .bool a1, .int .i64 t1] 32)).alloc (.cells #[.string g2, .int .i64 c2, .slice f2 l2 p2, .bool a2, .int .i64 t2] 32) := ⟨_, rfl⟩
  have b1 : Below w.heap.size w W1 := by rw [hW1]; exact ((Below.refl _ _).alloc (Nat.le_refl _) _).alloc (by simp) _
  have k0 : W1.cell? ⟨w.heap.size, 0, none⟩ = some (.string g1) := by rw [hW1]; simp
  have k1 : W1.cell? ⟨w.heap.size, 1, none⟩ = some (.int .i64 c1) := by rw [hW1]; simp
  have k2 : W1.cell? ⟨w.heap.size + 1, 0, none⟩ = some (.string g2) := by rw [hW1]; simp
  have k3 : W1.cell? ⟨w.heap.size + 1, 1, none⟩ = some (.int .i64 c2) := by rw [hW1]; simp
  have z1 : w.heap.size + 1 < W1.heap.size := by rw [hW1]; simp
  have z2 : w.heap.size < W1.heap.size := by omega
  have B1 : Hid _ := b1
  have HK : Hid (cmpK (g1, c1) (g2, c2) = cmpO (cmpS g1 g2) (cmpI c1 c2)) := rfl
  clear b1
  go_enter Try.func16, Try.ntmps16
  go_upto_region 1 with fail
  rw [← hW1]
  clear hW1
  obtain ⟨X, hX⟩ : ∃ X, X = cmpS g1 g2 := ⟨_, rfl⟩
  obtain ⟨Y, hY⟩ : ∃ Y, Y = cmpI c1 c2 := ⟨_, rfl⟩
  have HX : Hid (cmpS g1 g2 = X) := hX.symm
  have HY : Hid (cmpI c1 c2 = Y) := hY.symm
  clear hX hY
  go_region_held3 (fun w' => w'.cell? ⟨w.heap.size, 0, none⟩ = some (.string g1) ∧ w'.cell? ⟨w.heap.size, 1, none⟩ = some (.int .i64 c1) ∧ w'.cell? ⟨w.heap.size + 1, 0, none⟩ = some (.string g2) ∧ w'.cell? ⟨w.heap.size + 1, 1, none⟩ = some (.int .i64 c2))
    (first
      | go_keep
      | assumption)
    (first
      | (go_at_call 29; refine (cmps_any _ _ _).mono ?_; rintro e w' ⟨rfl, hw'⟩; subst w'; rw [HX.out])
      | (go_at_call 30; refine (cmpi_any _ _ _).mono ?_; rintro e w' ⟨rfl, hw'⟩; subst w'; rw [HY.out])
      | (go_at_call 28; refine (or_any _ X Y _ (by simp) (by simp) (by simp)).mono ?_; rintro e w' ⟨rfl, hw'⟩; subst w'))
  all_goals go_wp2
  all_goals go_ret
  all_goals exact ⟨ret_i (by rw [HK.out, HX.out, HY.out]), B1.out.trans ⟨rfl, rfl, rfl, by simp, fun k hk => Below.heap_alloc _ _ _ (by show k < W1.heap.size; omega)⟩⟩
end Go.Proofs.Ytffdknjocmfmfaa
