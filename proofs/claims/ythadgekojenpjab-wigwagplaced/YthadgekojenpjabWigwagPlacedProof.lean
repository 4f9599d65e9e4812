/- Proved: for every list of places and every place, WigwagPlaced answers true (of the first 30: places that are written and read again own what they owned).
  The frame is the guide's own shell (proof-skeleton.mjs) at this function; the walk and all ahead of it are mine. -/
import Derived.Test.YthadgekojenpjabRows
import Derived.Test.YthadgekojenpjabRingMath
import Derived.Test.YthadgekojenpjabAid
import Derived.Test.YthadgekojenpjabRing
import Derived.Test.YthadgekojenpjabCodeMath
import Derived.Test.YthadgekojenpjabCodeW
import Derived.Test.YthadgekojenpjabCodeR
import Derived.Test.YthadgekojenpjabCodeR2
import Derived.Test.YthadgekojenpjabCodeKeep
import Derived.Test.YthadgekojenpjabRiseMath
import Derived.Test.YthadgekojenpjabLawIds
import Derived.Test.YthadgekojenpjabPlaced
import Derived.WalkKit
import Derived.WalkLawsBesides
import Derived.ProofKit
import Derived.OpenShut
import Derived.ShutString
import Derived.ChangeOld
import Derived.Below
namespace Go.Proofs.Ythadgekojenpjab.wigwagPlaced
open Go.ChangeShapes Go.WideShapes Go.ChangeAt Go.RowKit
open Go.ChangeMaps (open_string shut_string)
set_option linter.unusedVariables false

theorem own : ownKnob Try.prog.godebug = none := by kernel_rfl
theorem laidOut : laidOutB Try.prog = true := by kernel_rfl

/-- WHAT THE WALK IS TOLD OF A SLICE OF INTEGERS THAT CAME IN: it is nil; or it leads to a row of 'cap' cells, the numbers 'zs' (the first 'len' are its elements, the rest its spare room), each fitting its kind. -/
def IsRow (k : IntKind) (w : World) (a : Option Addr) (len cap : Nat) (zs : List Int) : Prop :=
  (a = none ∧ len = 0 ∧ cap = 0 ∧ zs = []) ∨
  ∃ x, a = some x ∧ len ≤ cap ∧ cap ≤ maxLen ∧ zs.length = cap ∧ (∀ i, i < zs.length → w.cell? (x.add i) = some (.int k (zs.getD i 0))) ∧ ∀ n ∈ zs, (Lit.int k n).wf = true


theorem d53n : (dist 5 3 != 18446744073709551614) = false := by decide
/-! ### STEP 1: THE WALK: the Go text returns true, AND WRITES NOTHING THAT WAS THERE: 'Below w.heap.size w w'' (Derived/Below.lean: '.refl', '.alloc', '.drew', '.setCell' at a new block, '.trans'). Open each 'IsRow' by 'rcases' AHEAD of 'go_enter'; part every test ahead of the walk. -/
set_option maxRecDepth 100000 in
set_option maxHeartbeats 2000000 in
theorem walk (a0 : Option Addr) (len0 cap0 : Nat) (z0 : List Int) (a1 : Int) (w : World) (w0 : IsRow .u64 w a0 len0 cap0 z0) (w1 : (Lit.int .u64 a1).wf = true) :
    Calls Try.prog 3 #[.slice a0 len0 cap0, .int .u64 a1] w fun e w' => e = .returned (.bool true) ∧ Below w.heap.size w w' := by
  have hb1 := bounds_u64 w1
  have HX : Hid (0 ≤ a1 ∧ a1 ≤ 18446744073709551615) := hb1
  clear hb1
  by_cases h30 : 30 < len0
  case' pos =>
    obtain ⟨hI, hU, hlc, hcm⟩ := ids_of w0 30 (by omega)
    obtain ⟨l, hl⟩ : ∃ l, l = z0.take 30 := ⟨_, rfl⟩
    rw [← hl] at hI hU
    have HW : Hid (IsRow .u64 w a0 len0 cap0 z0) := w0
    clear hl w0
    go_enter Try.func3, Try.ntmps3
    go_wp2_with fail
  case' neg =>
    obtain ⟨hI, hU, hlc, hcm⟩ := ids_of w0 len0 (by omega)
    obtain ⟨l, hl⟩ : ∃ l, l = z0.take len0 := ⟨_, rfl⟩
    rw [← hl] at hI hU
    have HW : Hid (IsRow .u64 w a0 len0 cap0 z0) := w0
    clear hl w0
    go_enter Try.func3, Try.ntmps3
    go_wp2_with fail
  all_goals
    have hle := hI.1
    have hll : l.length ≤ 30 := by omega
    have hW0 := wr_new w.heap.size w (Nat.le_refl _)
    have b0 : Below w.heap.size w (w.alloc (.cells #[.slice none 0 0] 27)) := (Below.refl _ _).alloc (Nat.le_refl _) _
    have hs1 : (w.alloc (.cells #[.slice none 0 0] 27)).heap.size = w.heap.size + 1 := by simp
    refine (sorted_any a0 _ cap0 l _ (hI.carry b0) (by omega)).mono ?_
    rintro e1 w2 ⟨v, R, rfl, b1, o1, rR, mR, lR⟩
    obtain ⟨ga, gc, rfl, hgc, iR, gB⟩ := o1.at
    have hRl : R.length ≤ 30 := by
      have := nodup_len R l rR (fun x hx => (mR x).1 hx)
      omega
    have hz2 : w.heap.size < w2.heap.size := by have := b1.size; omega
    have P0 : Put1 w.heap.size w w2 w2 w.heap.size (.slice none 0 0) R 0 := ⟨hW0.below b1, fun k hk => by simp [Value.ownBlock] at hk, fun _ _ _ => rfl, Nat.le_refl _, b0.trans (b1.mono (by omega))⟩
    have H1 : Hid (R.Pairwise (· < ·) ∧ InU R ∧ IdsAt w2 ga R.length R ∧ (∀ x, ga = some x → w.heap.size < x.block ∧ x.block < w2.heap.size) ∧ Put1 w.heap.size w w2 w2 w.heap.size (.slice none 0 0) R 0) :=
      ⟨rR, fun y hy => hU y ((mR y).1 hy), iR, fun x hx => by have := gB x hx; omega, P0⟩
    clear b0 hs1 hW0 b1 o1 rR mR iR gB hI hU P0
    go_wp2
    go_loopw [22] (fun q wr => ∃ (j : Nat) (u : Value), j ≤ R.length ∧ q = .int .i64 j ∧ Put1 w.heap.size w w2 wr w.heap.size u R j) (fun q _ => R.length - (intOf q).toNat)
    case atStart => exact ⟨0, _, Nat.zero_le _, rfl, H1.out.2.2.2.2⟩
    case round =>
      obtain ⟨j, u, hj, rfl, G⟩ := hrel
      have HG : Hid (Put1 w.heap.size w w2 wr w.heap.size u R j ∧ IdsAt wr ga R.length R) :=
        ⟨G, H1.out.2.2.1.frame w.heap.size (fun x hx => by have := H1.out.2.2.2.1 x hx; omega) G.fr⟩
      have hsz := G.sz
      clear G
      by_cases hlt : j < R.length
      · obtain ⟨b, o, ha, hc⟩ : ∃ b o, ga = some ⟨b, o, none⟩ ∧ wr.cell? ⟨b, o + j, none⟩ = some (.int .u64 (R.getD j 0)) := by
          rcases HG.out.2.2 with h0 | ⟨b, o, ha, hc⟩
          · omega
          · exact ⟨b, o, ha, hc j hlt⟩
        have hyr := inU_getD H1.out.2.1 j
        have hlen := numsB_len (R.take j) (inU_take H1.out.2.1 j)
        obtain ⟨y, hy⟩ : ∃ y, y = R.getD j 0 := ⟨_, rfl⟩
        rw [← hy] at hc hyr
        have HY : Hid (y = R.getD j 0 ∧ 0 ≤ y ∧ y ≤ 18446744073709551615 ∧ (numsB (R.take j)).length ≤ 1000000) := ⟨hy, hyr.1, hyr.2, by simp at hlen; omega⟩
        clear hy hyr hlen
        subst ha
        go_wp2_with fail
        go_at_call 5
        refine (wnumber_int w.heap.size w.heap.size u _ y y.toNat wr HG.out.1.wri (by omega) (by have := HY.out.2.1; omega) (by have := HY.out.2.1; have := HY.out.2.2.1; omega) HY.out.2.2.2).mono ?_
        rintro e' w' ⟨rfl, u', hW', hK'⟩
        have G' := HG.out.1.step (by omega) hlt (by rw [← HY.out.1]; exact hW') hK'
        clear hW' hK'
        go_wp2
        go_roundw
        case rel => exact ⟨j + 1, u', hlt, by go_num, G'⟩
        case measure => simp [intOf]; omega
      · obtain rfl : j = R.length := by omega
        have hWA := HG.out.1.wri
        rw [List.take_of_length_le (Nat.le_refl _)] at hWA
        have hBA := HG.out.1.bel
        have hIA := HG.out.2
        have hGA : ∀ x, ga = some x → x.block < wr.heap.size := fun x hx => by have := H1.out.2.2.2.1 x hx; omega
        have hzA : w.heap.size < wr.heap.size := by omega
        have HA : Hid (Wr w.heap.size wr w.heap.size u (numsB R) ∧ Below w.heap.size w wr ∧ IdsAt wr ga R.length R ∧ (∀ x, ga = some x → x.block < wr.heap.size)) := ⟨hWA, hBA, hIA, hGA⟩
        clear HG hWA hBA hIA hGA hsz
        go_wp2_with fail
        go_at_call 7
        refine (bytes_any w.heap.size w.heap.size u _ wr HA.out.1).mono ?_
        rintro e' w' ⟨rfl, hw'⟩
        rw [hw']
        clear hw' w'
        obtain ⟨s, hsd⟩ : ∃ s : ByteArray, s = ⟨(numsB R).toArray⟩ := ⟨_, rfl⟩
        have HS : Hid (s.data.toList = numsB R ∧ s.size = (numsB R).length ∧ s.size ≤ 1000000) := by
          have a := numsB_len R H1.out.2.1
          have b : s.size = (numsB R).length := by rw [hsd]; show (numsB R).toArray.size = _; simp
          exact ⟨by rw [hsd], b, by omega⟩
        rw [← hsd]
        clear hsd
        go_wp2_with fail
        go_at_call 6
        refine (open_any _ _).mono ?_
        rintro e' w3 ⟨rfl, hw3⟩
        have hs3 : w3.heap.size = wr.heap.size + 1 := by rw [hw3]; simp
        have b3 : Below wr.heap.size wr w3 := by rw [hw3]; exact (Below.refl _ _).alloc (Nat.le_refl _) _
        have hR3 : Rd w3 wr.heap.size s 0 0 := by rw [hw3]; exact rd_new _ _
        have hI3 := HA.out.2.2.1.carry b3
        have hB3 : Below w.heap.size w w3 := HA.out.2.1.trans (b3.mono (by omega))
        obtain ⟨q, hq⟩ : ∃ q, q = wr.heap.size := ⟨_, rfl⟩
        rw [← hq] at hR3 hs3 hzA
        rw [← hq]
        have H3 : Hid (IdsAt w3 ga R.length R ∧ Below w.heap.size w w3 ∧ Rd w3 q s 0 0 ∧ (∀ x, ga = some x → x.block < q)) := ⟨hI3, hB3, hR3, fun x hx => by rw [hq]; exact HA.out.2.2.2 x hx⟩
        have hq3 : q < w3.heap.size := by omega
        clear hw3 b3 hR3 hI3 hB3 HA hq hs3
        obtain ⟨i0, hi, hz0, hz1, hz2'⟩ := info_parts' Try.infoId
        have G0 : Get2 w.heap.size w w3 (w3.alloc (.cells #[] 24)) q s (.slice (some ⟨w3.heap.size, 0, none⟩) 0 0) R 0 :=
          ⟨H3.out.2.2.1.alloc _, ⟨rfl, .inr ⟨w3.heap.size, 0, #[], rfl, Nat.le_refl _, by have := heap_alloc_new w3 (.cells #[] 24); simpa using this, Nat.le_refl _, Nat.zero_le _, rfl, rfl⟩⟩,
            fun k hk _ => Below.heap_alloc w3 _ k hk, by simp, H3.out.2.1.alloc (by omega) _⟩
        have HG0 : Hid (Get2 w.heap.size w w3 (w3.alloc (.cells #[] 24)) q s (.slice (some ⟨w3.heap.size, 0, none⟩) 0 0) R 0) := G0
        clear G0
        go_wp2
        go_loopw [10, 34] (fun x y wr => ∃ (j : Nat) (ua : Option Addr) (uc : Nat), j ≤ R.length ∧ y = .int .i64 j ∧ x = .slice ua j uc ∧ Get2 w.heap.size w w3 wr q s x R j) (fun _ y _ => R.length - (intOf y).toNat)
        case atStart => exact ⟨0, _, _, Nat.zero_le _, rfl, rfl, HG0.out⟩
        case round =>
          obtain ⟨j, ua, uc, hj, rfl, rfl, G⟩ := hrel
          have hsz := G.sz
          have HG : Hid (Get2 w.heap.size w w3 wr q s (.slice ua j uc) R j) := G
          clear G
          by_cases hlt : j < R.length
          · have hyr := inU_getD H1.out.2.1 j
            have hrd := numsB_read H1.out.2.1 hlt
            have hat : (numsB (R.take j)).length ≤ s.size := by
              rw [HS.out.2.1]
              have e : numsB R = numsB (R.take j) ++ numsB (R.drop j) := by rw [← numsB_app, List.take_append_drop]
              rw [e, List.length_append]; omega
            obtain ⟨y, hy⟩ : ∃ y, y = R.getD j 0 := ⟨_, rfl⟩
            rw [← hy] at hyr hrd
            have HY : Hid (y = R.getD j 0) := hy
            clear hy
            have qq := rnumber_any q s (numsB (R.take j)).length y.toNat _ 0 wr HG.out.rd hat HS.out.2.2 (by rw [HS.out.1]; exact hrd)
            rw [Int.toNat_of_nonneg hyr.1] at qq
            clear hyr hrd hat
            go_wp2_with fail
            go_at_call 8
            refine qq.mono ?_
            rintro e' w' ⟨rfl, hR', hS'⟩
            have hrow := HG.out.rowAt (by omega) hS' (.cells #[.int .u64 y] 24)
            have HN : Hid (Rd w' q s ((numsB (R.take j)).length + (numB y.toNat).length) 0 ∧ Same wr w' q) := ⟨hR', hS'⟩
            have hz' : wr.heap.size ≤ w'.heap.size := by rw [hS'.size]; exact Nat.le_refl _
            clear hR' hS' qq
            go_wp2_with (at_builtin; refine wpList_own_append _ rfl _ _ 22 22 rfl w3.heap.size 24 i0 (.int .u64 0) 8 Try.underlying22 hi hz0 hz1 hz2' rfl _ _ _ rfl hrow _ 1 [.int .u64 y] rfl (src_id w' y _) ?c3 ?c4 ?c5 ?_)
            case c3 => unfold maxLen; omega
            case c4 => omega
            case c5 => first | omega | (simp; omega)
            intro v' w'' ha
            obtain ⟨a', c', hv'⟩ := ha.shape
            have G' := HG.out.step (by omega) (by omega) hlt HN.out.2 HN.out.1 (by rw [HY.out]) (by rw [← HY.out]; simpa using ha)
            rw [hv'] at G' ⊢
            clear ha hrow hv'
            go_wp2
            go_roundw
            case rel => exact ⟨j + 1, a', c', hlt, by go_num, rfl, G'⟩
            case measure => simp [intOf]; omega
          · obtain rfl : j = R.length := by omega
            obtain ⟨hIB, hBB, _⟩ := HG.out.ids rfl
            have hIG : IdsAt wr ga R.length R := H3.out.1.frame q (fun x hx => by have := H3.out.2.2.2 x hx; omega) HG.out.fr
            have hrd := HG.out.rd
            rw [List.take_of_length_le (Nat.le_refl _)] at hrd
            have HB : Hid (IdsAt wr ua R.length R ∧ IdsAt wr ga R.length R ∧ Rd wr q s (numsB R).length 0 ∧ Below w.heap.size w wr ∧ (∀ x, ua = some x → w3.heap.size ≤ x.block)) := ⟨hIB, hIG, hrd, HG.out.bel, hBB⟩
            clear hIB hBB hIG hrd HG
            go_wp2_with fail
            go_at_call 9
            refine (done_nil q s _ wr HB.out.2.2.1 (by rw [HS.out.2.1]; omega)).mono ?_
            rintro e' w4 ⟨rfl, hR4, hA4⟩
            have H4 : Hid (IdsAt w4 ua R.length R ∧ IdsAt w4 ga R.length R ∧ Below w.heap.size w w4) :=
              ⟨HB.out.1.frame q (fun x hx => by have := HB.out.2.2.2.2 x hx; omega) hA4.block, HB.out.2.1.frame q (fun x hx => by have := H3.out.2.2.2 x hx; omega) hA4.block,
               hA4.below (by omega) (by omega) HB.out.2.2.2.1⟩
            clear hR4 hA4 HB
            have hd := d53n
            go_wp2_with (go_at_call 10; refine (dist_any _ _ _).mono ?_; rintro e' w' ⟨rfl, hw⟩; subst w')
            go_at_call 11
            refine (owner_ids ua _ uc R a1 w4 H4.out.1 (by omega)).mono ?_
            rintro e' w' ⟨rfl, hw⟩
            subst w'
            obtain ⟨i, hid⟩ : ∃ i, i = ownerN R a1 := ⟨_, rfl⟩
            have HO : Hid (i = ownerN R a1 ∧ ((R.length = 0 ∧ i = -1) ∨ ∃ o : Nat, i = o ∧ o < R.length ∧ ∀ k, k < R.length → dist a1 (R.getD o 0) ≤ dist a1 (R.getD k 0))) := by
              refine ⟨hid, ?_⟩
              rcases Nat.eq_zero_or_pos R.length with h0 | h0
              · refine .inl ⟨h0, ?_⟩
                rw [hid, List.eq_nil_of_length_eq_zero h0]; rfl
              · obtain ⟨o, ho, hol⟩ := owner_rng R a1 h0
                exact .inr ⟨o, by rw [hid, ho], hol, fun k hk => Int.not_lt.1 (owner_least H1.out.1 H1.out.2.1 HX.out ho hol k hk)⟩
            rw [← hid]
            clear hid
            go_wp2
            go_loopw [61] (fun y wr => ∃ j : Nat, j ≤ R.length ∧ y = .int .i64 j ∧ Below w4.heap.size w4 wr) (fun y _ => R.length - (intOf y).toNat)
            case atStart => exact ⟨0, Nat.zero_le _, rfl, Below.refl _ _⟩
            case round =>
              obtain ⟨j, hj, rfl, hW⟩ := hrel
              have HI : Hid (IdsAt wr ua R.length R ∧ IdsAt wr ga R.length R ∧ Below w4.heap.size w4 wr) := ⟨H4.out.1.carry hW, H4.out.2.1.carry hW, hW⟩
              clear hW
              by_cases hlt : j < R.length
              · obtain ⟨o, hio, hol, hleast⟩ : ∃ o : Nat, i = o ∧ o < R.length ∧ ∀ k, k < R.length → dist a1 (R.getD o 0) ≤ dist a1 (R.getD k 0) := by
                  rcases HO.out.2 with ⟨h0, _⟩ | h
                  · omega
                  · exact h
                obtain ⟨b, oo, ha, hc⟩ : ∃ b o, ua = some ⟨b, o, none⟩ ∧ ∀ j, j < R.length → wr.cell? ⟨b, o + j, none⟩ = some (.int .u64 (R.getD j 0)) := by
                  rcases HI.out.1.2 with h0 | ⟨b, o, ha, hc⟩
                  · omega
                  · exact ⟨b, o, ha, hc⟩
                obtain ⟨b2, o2, ha2, hc2⟩ : ∃ b o, ga = some ⟨b, o, none⟩ ∧ wr.cell? ⟨b, o + j, none⟩ = some (.int .u64 (R.getD j 0)) := by
                  rcases HI.out.2.1.2 with h0 | ⟨b, o, ha, hc⟩
                  · omega
                  · exact ⟨b, o, ha, hc j hlt⟩
                have hcj := hc j hlt
                have hco := hc o hol
                have hnd := hleast j hlt
                rw [← Int.not_lt] at hnd
                clear hc hleast
                obtain ⟨y, hy⟩ : ∃ y, y = R.getD j 0 := ⟨_, rfl⟩
                obtain ⟨z, hz⟩ : ∃ z, z = R.getD o 0 := ⟨_, rfl⟩
                rw [← hy] at hcj hc2 hnd
                rw [← hz] at hco hnd
                clear hy hz
                subst ha
                subst ha2
                subst hio
                have h00 : (0 : Int) ≤ (o : Int) := by omega
                have hlt2 : (j : Int) < (R.length : Int) := by omega
                have hol2 : (o : Int) < (R.length : Int) := by omega
                go_wp2_with fail
                go_quiet (first | (go_at_call 10; refine Calls.quiet_of_same (dist_any _ _ _)))
                go_wp2
                go_roundw
                case rel => exact ⟨j + 1, by omega, by go_num, HI.out.2.2.trans (below_drewN _ _ _)⟩
                case measure => simp [intOf]; omega
              · go_wp2_with fail
                go_at_call 11
                refine (owner_ids ga _ gc R a1 wr HI.out.2.1 (by omega)).mono ?_
                rintro e' w' ⟨rfl, hw⟩
                subst w'
                rw [← HO.out.1]
                have HE : Hid (Below w.heap.size w wr) := H4.out.2.2.trans (HI.out.2.2.mono H4.out.2.2.size)
                go_wp2
                go_ret
                refine ⟨?_, HE.out⟩
                rcases HO.out.2 with ⟨h0, h1⟩ | ⟨o, h1, h2, _⟩
                · rw [h0, h1]; rfl
                · rw [h1]; simp; omega

/-! ### THE ROW's STEP: WRITTEN OUT: LEAVE IT -/
set_option maxRecDepth 100000 in
theorem lifted (os : Os) (started : os.Started) (H : Type) (enc : TypeId × Value → H) :
    ReturnsInHanded {} Try.checked os 3 .any (Rows.wigwagPlacedSpec.pre6 enc Try.prog Try.f3 Rows.wigwagPlacedRow.domain false) (Rows.wigwagPlacedSpec.post enc Try.prog Try.f3 false true false false) := by
  refine returnsInHanded_of_change (C := Try.checked) own started (by kernel_rfl) Try.func3
    (ChangeSpec.witness6 (enc := enc) (C := Try.checked) false ⟨#[], #[.slice none 0 0, .int .u64 0], []⟩ 8 (by kernel_rfl) (by kernel_rfl) (by kernel_rfl) (by kernel_rfl)) ?_
  intro W base args ds gs before hval0 hW hcnd _
  have hval : ∀ (j : Nat) t v, Try.f3.params[j]? = some t → args[j]? = some v → Value.okWide Try.prog W .any base t v := hval0
  have hW' := hW
  obtain ⟨p, q, hA0, hV, rfl, hfz, hnd⟩ := hW
  have hA : DataW.TrodAll enc Try.prog W 0 (fun _ => true) true Try.f3.params.toList args.toList ds p := hA0
  rw [Try.params3] at hA hval
  obtain ⟨v0, vs0, d0, ds0, p0, q0, hargs, rfl, rfl, h0, r0⟩ := trodAll_cons hA
  obtain ⟨v1, vs1, d1, ds1, p1, q1, rfl, rfl, rfl, h1, r1⟩ := trodAll_cons r0
  obtain ⟨rfl, rfl, rfl⟩ := trodAll_nil r1
  obtain rfl : args = #[v0, v1] := by cases args; simp_all
  obtain ⟨rfl, rfl⟩ := trodVars_none hV
  obtain ⟨a0, len0, cap0, rfl⟩ := okWide_slice Try.underlying22 (hval 0 22 v0 rfl rfl)
  have k0 := h0
  have lt0 : ∀ x ∈ p0, x.block < W.heap.size := by obtain ⟨m, hm⟩ := k0; exact DataW.trod_lt m _ _ _ hm
  obtain ⟨z0, w0⟩ : ∃ zs, IsRow .u64 W a0 len0 cap0 zs := by
    obtain ⟨fuel, hf⟩ := h0
    rcases open_ints Try.underlying22 Try.underlying24 (by kernel_rfl) hf with ⟨hcs, _⟩ | ⟨x, l, c, zs, hcs, _, hl, hm, hz, _, hcell, hwz⟩
    · simp [Value.cells] at hcs
      obtain ⟨rfl, rfl, rfl⟩ := hcs
      exact ⟨[], .inl ⟨rfl, rfl, rfl, rfl⟩⟩
    · simp [Value.cells] at hcs
      obtain ⟨rfl, rfl, rfl⟩ := hcs
      exact ⟨zs, .inr ⟨_, rfl, hl, hm, by simpa using hz, hcell, hwz⟩⟩
  obtain ⟨a1, rfl, rfl, rfl, w1⟩ := open_int Try.underlying24 (hval 1 24 v1 rfl rfl) h1
  clear hA0 hval0
  refine (walk a0 len0 cap0 z0 a1 W w0 w1).mono fun e W' ⟨he, bel⟩ => ?_
  subst he
  exact ⟨_, rfl, _, _, _, [], _, [], hW', trodAll_mk1 (shut_bool Try.underlying4 _), (trodAll_cons_mk (Below.trod laidOut (by kernel_rfl) (of_decide_eq_true (by kernel_rfl)) k0 bel lt0) (trodAll_cons_mk (shut_int Try.underlying24 w1) trodAll_mk0)), rfl, bel.frame _, fun h => by cases h⟩

theorem over : Rows.wigwagPlacedRow.holds Try.pinned (OpenSpec.ofChange Rows.wigwagPlacedSpec) :=
  OpenClaim.holds_of_wide 3 Try.f3 rfl rfl rfl rfl rfl rfl rfl ⟨rfl, rfl, rfl, rfl, rfl⟩ rfl rfl rfl rfl rfl (by kernel_rfl) Try.func3 (by kernel_rfl)
    (of_decide_eq_true (by kernel_rfl)) (by unfold Func.isWrapper; first | (rw [if_pos (by decide +kernel)]; kernel_rfl) | (rw [if_neg (by decide +kernel)]; exact ⟨rfl, rfl⟩))
    (fun os started H enc _ => lifted os started H enc)

end Go.Proofs.Ythadgekojenpjab.wigwagPlaced

namespace Go.Proofs.Ythadgekojenpjab
/-- Proved: for every list of places and every place, WigwagPlaced answers true (of the first 30: places that are written and read again own what they owned). -/
theorem wigwagPlaced_holds : Rows.WigwagPlacedSaid := wigwagPlaced.over
#print axioms wigwagPlaced_holds
end Go.Proofs.Ythadgekojenpjab
