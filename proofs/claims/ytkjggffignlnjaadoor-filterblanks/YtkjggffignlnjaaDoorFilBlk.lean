/- wigwaglaw06.FilterBlanks, walked. -/
import Derived.Test.YtkjggffignlnjaaDoorFilTold
import Derived.Test.YtkjggffignlnjaaDoorFilBlank
import Derived.Test.YtkjggffignlnjaaDoorCut
import Derived.Laws.OwnMore
import Derived.Laws.IdiomStrings
import Derived.Laws.RangeString
import Derived.Laws.RangeAny
import Derived.Deep.LoopGhost
import Derived.Deep.RegionWith
import Derived.Deep.CutBlock
import Derived.Deep.DeepCutAuto
namespace Go.Proofs.YtkjggffignlnjaaDoor
open Go.ChangeShapes Go.WideShapes Go.ChangeAt Go.RowKit
set_option linter.unusedVariables false

def zs (n : Nat) : ByteArray := ⟨(List.replicate n (0 : UInt8)).toArray⟩
def bs (n : Nat) : ByteArray := ⟨(bl n).toArray⟩
theorem zs_size (n : Nat) : (zs n).size = n := by show (List.replicate n (0 : UInt8)).toArray.size = n; simp
theorem bs_size (n : Nat) : (bs n).size = n := by show (bl n).toArray.size = n; simp [bl]
theorem bs_succ (n : Nat) : bs n ++ ⟨#[32]⟩ = bs (n + 1) := by
  apply ByteArray.ext; apply Array.ext'
  simp [bs, bl, List.replicate_succ']
theorem zs_get (n i : Nat) (h : i < (zs n).size) : ((zs n)[i]'h).toNat = 0 := by
  have : (zs n)[i] = (List.replicate n (0 : UInt8)).toArray[i]'(by simpa [zs_size] using h) := rfl
  rw [this]; simp
theorem zs_ascii {z : ByteArray} {n : Nat} (hz : z = zs n) (pos : Nat) (h : pos < z.size) : (z[pos]'h).toNat < 128 := by
  subst hz; rw [zs_get]; omega
theorem zero_textB (n : Nat) (hn : n ≤ 2000) (w : World) : ∃ (w1 : World), (Instr.makeSlice 39 (.int .i64 (n : Int)) (.int .i64 (n : Int))).run Tryd.prog w = .ok (.slice (some ⟨w.heap.size, 0, none⟩) n n) w1 ∧
    (convert 39 9 (.slice (some ⟨w.heap.size, 0, none⟩) n n)).run Tryd.prog w1 = .ok (.string (zs n)) w1 ∧ Below w.heap.size w w1 := by
  obtain ⟨i0, hi, hz0, hz1, hz2⟩ := info_parts Tryd.infoU8
  obtain ⟨w1, hr, hown, hg⟩ := run_makeSlice_full (P := Tryd.prog) w w.heap.size 39 5 i0 (.int .u8 0) 1 Tryd.underlying39 hi hz0 hz1 .i64 .i64 n (by omega) (by rw [hz2]; omega) (by unfold maxLen; omega) (Nat.le_refl _)
  have hl : (List.replicate n (0 : UInt8)).length = n := List.length_replicate
  have hcv := run_convert_bytes_back (P := Tryd.prog) w1 39 9 5 ⟨w.heap.size, 0, none⟩ n (List.replicate n 0) Tryd.underlying39 Tryd.underlying5 Tryd.underlying9 (fun j hj => by
    have hj' : j < n := by rw [hl] at hj; exact hj
    have e : (madeCells (Value.cells (.int .u8 0)) (n * 1)).toList[j]? = some (.int .u8 0) := by
      simp [madeCells, Value.cells, hj', Nat.mod_one]
    have := hown.cells (g := w.heap.size) rfl j _ e
    rw [this]; simp)
  rw [hl] at hcv
  exact ⟨w1, hr, hcv, ⟨hg.os, hg.tape, hg.output, hg.size, fun k hk => hg.block k hk (by simp)⟩⟩
theorem conv_oneB (W : World) (b : Nat) (x : Int) (c : UInt8) (hx : x = (c.toNat : Int)) (h : W.cell? ⟨b, 0, none⟩ = some (.int .u8 x)) :
    (convert 39 9 (.slice (some ⟨b, 0, none⟩) 1 1)).run Tryd.prog W = .ok (.string ⟨#[c]⟩) W := by
  subst hx
  exact run_convert_bytes_back (P := Tryd.prog) W 39 9 5 ⟨b, 0, none⟩ 1 [c] Tryd.underlying39 Tryd.underlying5 Tryd.underlying9 (fun j hj => by
    have hj0 : j = 0 := by simpa using hj
    subst hj0
    simpa [Addr.add] using h)
theorem app_listB (s t u : ByteArray) : (s ++ t ++ u).data.toList = s.data.toList ++ (t.data.toList ++ u.data.toList) := by simp
theorem below_al {w w1 : World} {o : Obj} (h : Below (w.alloc o).heap.size (w.alloc o) w1) : Below w.heap.size w w1 :=
  ((Below.refl _ _).alloc (Nat.le_refl _) o).trans (h.mono (by simp))
theorem nil_pl (w : World) : PlIn w (.slice none 0 0) [] := ⟨⟨none, 0, rfl, fun q => absurd q (by simp)⟩⟩
set_option maxRecDepth 100000 in
set_option maxHeartbeats 20000000 in
theorem blanks_any (a0 : ByteArray) (a1 a2 : Int) (w : World) (w0 : a0.size ≤ maxLen) (hV : Env w) (hE : ErrType w) (hc0 : 0 ≤ a2) (hc1 : a2 < 256) :
    Calls Tryd.prog 4 #[.string a0, .int .i64 a1, .int .u8 a2] w fun e w' => e = .returned (.bool true) ∧ Below w.heap.size w w' := by
  have hcs := cut_size a0 200
  obtain ⟨t, ht⟩ : ∃ t, t = cut a0 200 := ⟨_, rfl⟩
  have HC : Hid (t = cut a0 200) := ht
  rw [← ht] at hcs
  clear ht
  have HE : Hid (Env w ∧ ErrType w) := ⟨hV, hE⟩
  clear hV hE
  go_enter Tryd.func4, Tryd.ntmps4
  go_wp2_with fail
  refine (cut_any a0 200 _ w0).mono ?_
  rw [← HC.out]
  rintro e w' ⟨rfl, hw'⟩
  subst w'
  by_cases g0 : a1 < 0
  · go_wp2_with fail
    refine (awake6_any _ HE.out.1 HE.out.2).mono ?_
    rintro e w2 ⟨rfl, b2⟩
    have HB2 : Hid (Below w.heap.size w w2) := b2
    clear b2
    go_wp2
    go_ret
    exact ⟨rfl, HB2.out⟩
  · by_cases g1 : 20 < a1
    · go_wp2_with fail
      refine (awake6_any _ HE.out.1 HE.out.2).mono ?_
      rintro e w2 ⟨rfl, b2⟩
      have HB2 : Hid (Below w.heap.size w w2) := b2
      clear b2
      go_wp2
      go_ret
      exact ⟨rfl, HB2.out⟩
    · obtain ⟨n, rfl⟩ : ∃ n : Nat, a1 = n := ⟨a1.toNat, by omega⟩
      have hn : n ≤ 20 := by omega
      obtain ⟨w1, hmk, hcv, b1⟩ := zero_textB n (by omega) w
      have HB1 : Hid (Below w.heap.size w w1) := b1
      clear b1
      have hzs := zs_size n
      obtain ⟨z, hz⟩ : ∃ z, z = zs n := ⟨_, rfl⟩
      have HZ : Hid (z = zs n) := hz
      rw [← hz] at hcv hzs
      clear hz
      go_wp2
      go_loopg [8] n (fun kx s8 wr => ∃ pos : Nat, s8 = .string (bs pos) ∧ pos ≤ n ∧ kx = n - pos ∧ wr = w1.iter z pos)
      case atStart => exact ⟨0, rfl, Nat.zero_le _, rfl, rfl⟩
      case round =>
        obtain ⟨pos, rfl, hp1, hkg, rfl⟩ := hrel
        have hbz := bs_size pos
        by_cases hp : pos < n
        · have hps : pos < z.size := by omega
          have hnx : ∀ ty, (Instr.next (.pointer (some ⟨w1.heap.size, 0, none⟩)) true ty).run Tryd.prog (w1.iter z pos) = .ok (.tuple #[.bool true, .int .i64 pos, .int .i32 ((z[pos]'hps).toNat)]) (w1.iter z (pos + 1)) := fun ty => run_next_ascii w1 z pos ty hps (zs_ascii HZ.out pos hps)
          go_wp2
          go_roundg (n - (pos + 1))
          case measure => omega
          case rel => exact ⟨pos + 1, by rw [bs_succ], by omega, rfl, rfl⟩
        · obtain rfl : pos = n := by omega
          have hps : ¬ pos < z.size := by omega
          have hnx : ∀ ty, (Instr.next (.pointer (some ⟨w1.heap.size, 0, none⟩)) true ty).run Tryd.prog (w1.iter z pos) = .ok (.tuple #[.bool false]) (w1.iter z pos) := fun ty => run_next_end w1 z pos ty hps
          go_wp2_with fail
          have HW : Hid (Below w.heap.size w (w1.iter z pos)) := (HB1.out.alloc HB1.out.size _ : Below w.heap.size w (w1.iter z pos))
          generalize w1.iter z pos = W at HW ⊢
          clear hnx hmk hcv hps hzs HZ HB1
          have HE2 : Hid (Env W ∧ ErrType W) := ⟨HE.out.1.below HW.out HE.out.1.lt, HE.out.2.below HE.out.2.lt HW.out⟩
          refine (parse_any t _ HE2.out.1 (by unfold maxLen; omega)).mono ?_
          rintro e wa ⟨hA, ba⟩
          have HBa : Hid (Below w.heap.size w wa ∧ Env wa ∧ ErrType wa) := ⟨HW.out.trans (ba.mono HW.out.size), HE2.out.1.below ba HE2.out.1.lt, HE2.out.2.below HE2.out.2.lt ba⟩
          clear ba HE2 HW
          have HS : Hid ((bs pos ++ t ++ bs pos).data.toList = bl pos ++ (t.data.toList ++ bl pos) ∧ (bs pos ++ t ++ bs pos).size = pos + t.size + pos) := by
            refine ⟨by rw [app_listB]; rfl, ?_⟩
            simp only [ByteArray.size_append, bs_size]
          cases hp2 : pars t.data.toList with
          | fail b r =>
            obtain ⟨N, rfl, hF⟩ := hA.fail (by omega) hp2
            obtain ⟨b', r', hf⟩ := pars_fb pos hp2
            rw [← HS.out.1] at hf
            have HF : Hid (pars (bs pos ++ t ++ bs pos).data.toList = .fail b' r') := hf
            clear hA hF hp2 hf
            obtain ⟨v, hv⟩ : ∃ v : Value, v = .slice none 0 0 := ⟨_, rfl⟩
            have HV : Hid (PlIn wa v []) := by rw [hv]; exact nil_pl _
            rw [← hv]
            clear hv
            go_wp2_with fail
            obtain ⟨hf, hsz⟩ : pars (bs pos ++ t ++ bs pos).data.toList = .fail b' r' ∧ (bs pos ++ t ++ bs pos).size = pos + t.size + pos := ⟨HF.out, HS.out.2⟩
            clear HF HS
            generalize bs pos ++ t ++ bs pos = S at hf hsz ⊢
            refine (parse_any S _ HBa.out.2.1 (by unfold maxLen; omega)).mono ?_
            rintro e wb ⟨hA, bb⟩
            obtain ⟨N2, rfl, hF⟩ := hA.fail (by omega) hf
            have HBb : Hid (Below w.heap.size w wb ∧ Env wb ∧ ErrType wb ∧ PlIn wb v []) := ⟨HBa.out.1.trans (bb.mono HBa.out.1.size), HBa.out.2.1.below bb HBa.out.2.1.lt, HBa.out.2.2.below HBa.out.2.2.lt bb, HV.out.below bb⟩
            clear hA bb hf hsz hF
            obtain ⟨v2, hv⟩ : ∃ v : Value, v = .slice none 0 0 := ⟨_, rfl⟩
            have HV2 : Hid (PlIn wb v2 []) := by rw [hv]; exact nil_pl _
            rw [← hv]
            clear hv
            go_upto_region 11 with fail
            go_cut [59] (fun x wx => x = .bool false ∧ Hid (Below wb.heap.size wb wx))
            case first =>
              go_region_with (first
                | (go_at_call_of 12 v; refine (told_any v [] _ (HBb.out.2.2.2.below (below_drew1 (Below.refl _ _))) (by simp)).mono ?_; rintro e w5 ⟨v5, rfl, o5, b5⟩; have X5 : Hid (Below wb.heap.size wb w5 ∧ PlIn w5 v5 []) := ⟨(below_drew1 (Below.refl _ _)).trans b5, PlIn.ofOwn (us := []) o5⟩; clear o5 b5)
                | (go_at_call_of 12 v2; refine (told_any v2 [] w5 (HV2.out.below X5.out.1) (by simp)).mono ?_; rintro e w6 ⟨v6, rfl, o6, b6⟩; have X6 : Hid (Below wb.heap.size wb w6 ∧ PlIn w6 v5 [] ∧ PlIn w6 v6 []) := ⟨X5.out.1.trans (b6.mono X5.out.1.size), X5.out.2.below b6, PlIn.ofOwn (us := []) o6⟩; clear o6 b6)
                | (go_at_call 11; refine (same_yes v5 v6 [] w6 X6.out.2.1 X6.out.2.2 (by simp)).mono ?_; rintro e w7 ⟨rfl, b7⟩; have X7 : Hid (Below wb.heap.size wb w7) := X6.out.1.trans (b7.mono X6.out.1.size); clear b7))
              all_goals (try go_wp2_with fail)
              all_goals go_meet
              all_goals exact ⟨by simp, X7⟩
            case rest =>
              obtain ⟨rfl, HX⟩ := hcut
              have HBx : Hid (Below w.heap.size w _ ∧ Env _ ∧ ErrType _) := ⟨HBb.out.1.trans (HX.out.mono HBb.out.1.size), HBb.out.2.1.below HX.out HBb.out.2.1.lt, HBb.out.2.2.1.below HBb.out.2.2.1.lt HX.out⟩
              go_wp2_with fail
              refine (awake6_any _ HBx.out.2.1 HBx.out.2.2).mono ?_
              rintro e w8 ⟨rfl, b8⟩
              have HB8 : Hid (Below w.heap.size w w8) := HBx.out.1.trans (b8.mono HBx.out.1.size)
              clear b8
              go_wp2
              go_ret
              exact ⟨rfl, HB8.out⟩
          | ok ps r =>
            obtain ⟨v, rfl, hrow⟩ := hA.ok (by omega) hp2
            have hpl : ps.length ≤ 201 := by
              have := pars_num hp2
              simp at this
              have ht : t.data.size = t.size := rfl
              omega
            obtain ⟨r', hf⟩ := pars_ob pos hp2
            rw [← HS.out.1] at hf
            have HF : Hid (pars (bs pos ++ t ++ bs pos).data.toList = .ok ps r') := hf
            have HV : Hid (PlIn wa v ps ∧ pars t.data.toList = .ok ps r) := ⟨PlIn.ofOwn hrow, hp2⟩
            clear hA hrow hp2 hf
            go_wp2_with fail
            obtain ⟨hf, hsz⟩ : pars (bs pos ++ t ++ bs pos).data.toList = .ok ps r' ∧ (bs pos ++ t ++ bs pos).size = pos + t.size + pos := ⟨HF.out, HS.out.2⟩
            clear HF HS
            generalize bs pos ++ t ++ bs pos = S at hf hsz ⊢
            refine (parse_any S _ HBa.out.2.1 (by unfold maxLen; omega)).mono ?_
            rintro e wb ⟨hA, bb⟩
            obtain ⟨v2, rfl, hrow⟩ := hA.ok (by omega) hf
            have HBb : Hid (Below w.heap.size w wb ∧ Env wb ∧ ErrType wb ∧ PlIn wb v ps) := ⟨HBa.out.1.trans (bb.mono HBa.out.1.size), HBa.out.2.1.below bb HBa.out.2.1.lt, HBa.out.2.2.below HBa.out.2.2.lt bb, HV.out.1.below bb⟩
            have HV2 : Hid (PlIn wb v2 ps) := PlIn.ofOwn hrow
            clear hA bb hf hsz hrow
            go_upto_region 11 with fail
            go_cut [59] (fun x wx => x = .bool false ∧ Hid (Below wb.heap.size wb wx))
            case first =>
              go_region_with (first
                | (go_at_call_of 12 v; refine (told_any v ps _ (HBb.out.2.2.2.below (below_drew1 (Below.refl _ _))) (by omega)).mono ?_; rintro e w5 ⟨v5, rfl, o5, b5⟩; have X5 : Hid (Below wb.heap.size wb w5 ∧ PlIn w5 v5 ps) := ⟨(below_drew1 (Below.refl _ _)).trans b5, PlIn.ofOwn o5⟩; clear o5 b5)
                | (go_at_call_of 12 v2; refine (told_any v2 ps w5 (HV2.out.below X5.out.1) (by omega)).mono ?_; rintro e w6 ⟨v6, rfl, o6, b6⟩; have X6 : Hid (Below wb.heap.size wb w6 ∧ PlIn w6 v5 ps ∧ PlIn w6 v6 ps) := ⟨X5.out.1.trans (b6.mono X5.out.1.size), X5.out.2.below b6, PlIn.ofOwn o6⟩; clear o6 b6)
                | (go_at_call 11; refine (same_yes v5 v6 ps w6 X6.out.2.1 X6.out.2.2 (by omega)).mono ?_; rintro e w7 ⟨rfl, b7⟩; have X7 : Hid (Below wb.heap.size wb w7) := X6.out.1.trans (b7.mono X6.out.1.size); clear b7))
              all_goals (try go_wp2_with fail)
              all_goals go_meet
              all_goals exact ⟨by simp, X7⟩
            case rest =>
              obtain ⟨rfl, HX⟩ := hcut
              have HBx : Hid (Below w.heap.size w _ ∧ Env _ ∧ ErrType _) := ⟨HBb.out.1.trans (HX.out.mono HBb.out.1.size), HBb.out.2.1.below HX.out HBb.out.2.1.lt, HBb.out.2.2.1.below HBb.out.2.2.1.lt HX.out⟩
              clear HX HBb HV2
              by_cases hc : a2 = 32
              · subst hc
                go_wp2_with fail
                refine (awake6_any _ HBx.out.2.1 HBx.out.2.2).mono ?_
                rintro e w8 ⟨rfl, b8⟩
                have HB8 : Hid (Below w.heap.size w w8) := HBx.out.1.trans (b8.mono HBx.out.1.size)
                clear b8
                go_wp2
                go_ret
                exact ⟨rfl, HB8.out⟩
              · obtain ⟨c, rfl⟩ : ∃ c : UInt8, a2 = (c.toNat : Int) := ⟨UInt8.ofNat a2.toNat, by rw [UInt8.toNat_ofNat']; omega⟩
                have HCC : Hid (c.toNat ≠ 32) := (fun q => hc (by omega) : c.toNat ≠ 32)
                have hconv : ∀ (W : World) (b : Nat), W.cell? ⟨b, 0, none⟩ = some (.int .u8 (c.toNat : Int)) → (convert 39 9 (.slice (some ⟨b, 0, none⟩) 1 1)).run Tryd.prog W = .ok (.string ⟨#[c]⟩) W := fun W b h => conv_oneB W b _ c rfl h
                go_wp2_with fail
                obtain ⟨b3, r3, hf3⟩ := pars_bad c HCC.out HV.out.2
                have hS3 : (t ++ ⟨#[32]⟩ ++ ⟨#[c]⟩).data.toList = t.data.toList ++ [32, c] := by rw [app_listB]; rfl
                have hz3 : (t ++ ⟨#[32]⟩ ++ ⟨#[c]⟩).size = t.size + 2 := by simp only [ByteArray.size_append]; rfl
                rw [← hS3] at hf3
                clear hS3 hconv
                generalize t ++ ⟨#[32]⟩ ++ ⟨#[c]⟩ = S3 at hf3 hz3 ⊢
                refine (parse_any S3 _ (HBx.out.2.1.below ((Below.refl _ _).alloc (Nat.le_refl _) _) HBx.out.2.1.lt) (by unfold maxLen; omega)).mono ?_
                rintro e w8 ⟨hA, b8⟩
                obtain ⟨N3, rfl, hF⟩ := hA.fail (by omega) hf3
                have b9 := below_al b8
                have HB8 : Hid (Below w.heap.size w w8 ∧ Env w8 ∧ ErrType w8) := ⟨HBx.out.1.trans (b9.mono HBx.out.1.size), HBx.out.2.1.below b9 HBx.out.2.1.lt, HBx.out.2.2.below HBx.out.2.2.lt b9⟩
                obtain ⟨pl, hple⟩ : ∃ pl : Int, pl = ((S3.size - r3.length : Nat) : Int) := ⟨_, rfl⟩
                rw [← hple] at hF
                have HF : Hid (FaultAt w8 N3 pl 2) := hF
                clear hA hF b8 b9 hf3 hz3 hple
                go_wp2_with fail
                refine (awake6_any _ HB8.out.2.1 HB8.out.2.2).mono ?_
                rintro e w9 ⟨rfl, b9⟩
                have HB9 : Hid (Below w.heap.size w w9 ∧ FaultAt w9 N3 pl 2) := ⟨HB8.out.1.trans (b9.mono HB8.out.1.size), HF.out.below b9⟩
                clear b9
                go_wp2_with fail
                refine (is_faultl N3 2 pl _ HB9.out.2).mono ?_
                rintro e w' ⟨rfl, hw'⟩
                subst w'
                go_wp2
                go_ret
                exact ⟨rfl, HB9.out.1⟩
end Go.Proofs.YtkjggffignlnjaaDoor
