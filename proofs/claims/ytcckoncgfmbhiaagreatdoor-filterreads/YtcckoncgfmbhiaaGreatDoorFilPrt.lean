/- filter.quoted, printPred, Print. -/
import Derived.Test.YtcckoncgfmbhiaaGreatDoorFilPrnM
import Derived.Test.YtcckoncgfmbhiaaGreatDoorFilTold
import Derived.Test.YtcckoncgfmbhiaaGreatDoorShelfB
import Derived.Test.YtcckoncgfmbhiaaGreatDoorFam
import Derived.Deep.LoopGhost
namespace Go.Proofs.YtcckoncgfmbhiaaGreatDoor
open Go.ChangeShapes Go.WideShapes Go.ChangeAt Go.RowKit
set_option linter.unusedVariables false

theorem pbel1 (w : World) (o : Obj) : Below w.heap.size w (w.alloc o) := (Below.refl _ _).alloc (Nat.le_refl _) o
theorem own_carryP {B : Nat} {w w' : World} {e : TypeId} {k n : Nat} {v : Value} {xs : List Value} (h : w.ownsRow B e k v n xs) (hb : Below w.heap.size w w') : w'.ownsRow B e k v n xs := by
  refine ⟨h.1, ?_⟩
  rcases h.2 with h1 | ⟨g', cap, cur, hv, hbg, hg, hr⟩
  · exact .inl h1
  · exact .inr ⟨g', cap, cur, hv, hbg, (hb.block g' (lt_of_block hg)).trans hg, hr⟩
theorem grown_belowP {B : Nat} {w0 w w' : World} {e : TypeId} {k n : Nat} {v : Value} {xs : List Value} (hb : Below B w0 w) (hle : B ≤ w.heap.size) (h : w.ownsRow B e k v n xs) (hg : w.grownBy w' v.ownBlock) : Below B w0 w' :=
  hb.trans ⟨hg.os, hg.tape, hg.output, hg.size, fun j hj => hg.block j (by omega) (fun e => by have := (h.lt j e.symm).1; omega)⟩
/-- A row of one-cell things of the call's own. -/
structure OwRow (T : TypeId) (w0 w : World) (v : Value) (xs : List Value) : Prop where
  row : w.ownsRow w0.heap.size T 1 v xs.length xs
  bel : Below w0.heap.size w0 w
theorem OwRow.le {T : TypeId} {w0 w : World} {v : Value} {xs : List Value} (h : OwRow T w0 w v xs) : w0.heap.size ≤ w.heap.size := h.bel.size
theorem OwRow.carry {T : TypeId} {w0 w w' : World} {v : Value} {xs : List Value} (h : OwRow T w0 w v xs) (hb : Below w.heap.size w w') : OwRow T w0 w' v xs := ⟨own_carryP h.row hb, h.bel.trans (hb.mono h.le)⟩
theorem OwRow.nil (T : TypeId) (w0 w : World) (h : Below w0.heap.size w0 w) : OwRow T w0 w (.slice none 0 0) [] := ⟨World.ownsRow_nil _ _ _ _, h⟩
theorem OwRow.step {T : TypeId} {w0 W1 W2 : World} {v v' : Value} {xs ys : List Value} (h1 : OwRow T w0 W1 v xs) (ha : Appended w0.heap.size T W1 W2 v v' (xs.length + ys.length) (xs ++ ys)) : OwRow T w0 W2 v' (xs ++ ys) := by
  refine ⟨?_, grown_belowP h1.bel h1.le h1.row ha.grown⟩
  have := ha.row
  simpa using this
theorem src_By (w : World) (c : UInt8) (x : Nat) (hx : x = w.heap.size) :
    Src Tryz.prog 1 41 (.slice (some ⟨x, 0, none⟩) 1 1) 1 [cellB c] (w.alloc (.cells #[.int .u8 (c.toNat : Int)] 5)) :=
  Src.ofSlice _ Tryz.underlying41 _ 1 1 _ rfl (fun j u hu => by
    subst hx
    have := World.news_of_block (cs := #[.int .u8 (c.toNat : Int)]) (t := 5) (fr := (0, 0)) (heap_alloc_new w _) j u (by simpa [cellB] using hu)
    exact this) (by simp [cellB, Value.oneCell'])
theorem src_Tx (w : World) (s : ByteArray) (x : Nat) (hx : x = w.heap.size) :
    Src Tryz.prog 1 82 (.slice (some ⟨x, 0, none⟩) 1 1) 1 [.string s] (w.alloc (.cells #[.string s] 9)) :=
  Src.ofSlice _ Tryz.underlying82 _ 1 1 _ rfl (fun j u hu => by
    subst hx
    have := World.news_of_block (cs := #[.string s]) (t := 9) (fr := (0, 0)) (heap_alloc_new w _) j u (by simpa using hu)
    exact this) (by simp [Value.oneCell'])
theorem own_made (w : World) (T : TypeId) (cs : List Value) (n : Nat) (hn : n = cs.length) (hl : cs.length ≤ maxLen) : (w.alloc (.cells cs.toArray T)).ownsRow w.heap.size T 1 (.slice (some ⟨w.heap.size, 0, none⟩) n n) cs.length cs := by
  subst hn
  refine ⟨by simp, .inr ⟨w.heap.size, cs.length, cs.toArray, rfl, Nat.le_refl _, heap_alloc_new w _, Nat.le_refl _, hl, by simp, by simp⟩⟩
/-- Bytes of the call's own as a text. -/
theorem conv_own {W : World} {B : Nat} {v : Value} {acc : List UInt8} (hrow : W.ownsRow B 5 1 v acc.length (acc.map cellB)) : (convert 41 9 v).run Tryz.prog W = .ok (.string (ba acc)) W := by
  rcases hrow.2 with ⟨hv, hn⟩ | ⟨g, cap, cur, hv, hbg, hg, hnc, hcm, hcs, htake⟩
  · have hl : acc = [] := List.eq_nil_of_length_eq_zero hn
    subst hl
    subst hv
    exact run_convert_bytes_nil (P := Tryz.prog) W 41 5 Tryz.underlying41 Tryz.underlying5 0 0 9 Tryz.underlying9
  · rw [hv]
    exact run_convert_bytes_back (P := Tryz.prog) W 41 9 5 ⟨g, 0, none⟩ cap acc Tryz.underlying41 Tryz.underlying5 Tryz.underlying9 (fun i hi => by
      have := hrow.cells (g := g) (by rw [hv]; rfl) i (cellB acc[i]) (by simp [hi])
      exact this)

theorem qL_len (s : List UInt8) : (qL s).length ≤ 2 * s.length := by
  induction s with
  | nil => simp [qL]
  | cons c s ih => rw [qL_cons]; split <;> simp <;> omega
set_option maxRecDepth 100000 in
set_option maxHeartbeats 2000000 in
theorem quoted_any (s : ByteArray) (w : World) (hs : s.size ≤ 1000) :
    Calls Tryz.prog 56 #[.string s] w fun e w' => e = .returned (.string (ba (34 :: (qL s.data.toList ++ [34])))) ∧ Below w.heap.size w w' := by
  obtain ⟨i0, hi, hz0, hz1, hz2⟩ := info_parts Tryz.infoU8
  have HM : Hid (OwRow 5 w (w.alloc (.cells #[.int .u8 34] 5)) (.slice (some ⟨w.heap.size, 0, none⟩) 1 1) [.int .u8 34]) := ⟨own_made w 5 [.int .u8 34] 1 rfl (by unfold maxLen; simp), pbel1 _ _⟩
  go_enter Tryz.func56, Tryz.ntmps56
  go_wp2
  go_loopg [3, 8] s.size (fun kx s3 s8 wr => ∃ (k m : Nat) (a : Option Addr) (c : Nat), s8 = .int .i64 k ∧ k ≤ s.size ∧ kx = s.size - k ∧ s3 = .slice a m c ∧ m ≤ 2001 ∧ Hid (m = (34 :: qL (s.data.toList.take k)).length ∧ OwRow 5 w wr (.slice a m c) ((34 :: qL (s.data.toList.take k)).map cellB)))
  case atStart => exact ⟨0, 1, _, 1, rfl, Nat.zero_le _, rfl, rfl, by omega, (⟨rfl, HM.out⟩ : _ ∧ _)⟩
  case round =>
    obtain ⟨k, m, a, c, rfl, hk, rfl, rfl, hm, I⟩ := hrel
    have hle : w.heap.size ≤ wr.heap.size := I.out.2.le
    have HML : Hid (((34 :: qL (s.data.toList.take k)).map cellB).length = m) := by rw [Hid]; rw [List.length_map, I.out.1]
    by_cases hlt : k < s.size
    · have htk : s.data.toList.take (k + 1) = s.data.toList.take k ++ [s[k]] := by
        rw [List.take_succ_eq_append_getElem (by simpa using hlt)]; rfl
      have hm1 : m ≤ 2 * k + 1 := by
        have h1 := I.out.1
        have h2 := qL_len (s.data.toList.take k)
        have h3 : (s.data.toList.take k).length ≤ k := List.length_take_le _ _
        rw [List.length_cons] at h1; omega
      have HR : Hid (OwRow 5 w wr (.slice a m c) ((34 :: qL (s.data.toList.take k)).map cellB)) := I.out.2
      have HTK : Hid (qL (s.data.toList.take (k + 1)) = qL (s.data.toList.take k) ++ (if isSign s[k] then [92, s[k]] else [s[k]])) := by
        rw [Hid, htk, qL_snoc]
      have HRM : Hid (wr.ownsRow w.heap.size 5 1 (.slice a m c) m ((34 :: qL (s.data.toList.take k)).map cellB)) := by
        have := HR.out.row; rw [HML.out] at this; exact this
      generalize qL (s.data.toList.take k) = acc at *
      clear htk I
      cases hsg : isSign s[k] with
      | false =>
        have HSG : Hid (isSign s[k] = false) := hsg
        have HTK2 : Hid (qL (s.data.toList.take (k + 1)) = acc ++ [s[k]]) := by
          have := HTK.out; rw [HSG.out] at this; exact this
        clear hsg HTK
        go_wp2_with (first
          | (go_at_call 71; refine Calls.mono (sign_is _ _ HSG.out) ?_; rintro e w' ⟨rfl, hw'⟩; subst w')
          | (at_builtin; refine wpList_own_append _ rfl _ _ 41 41 rfl w.heap.size 5 i0 _ 1 Tryz.underlying41 hi hz0 hz1 hz2 rfl _ m ((34 :: acc).map cellB) rfl (own_carryP HRM.out (pbel1 _ _)) _ 1 [cellB s[k]] rfl (src_By wr s[k] _ rfl) ?c3 ?c4 ?c5 ?_))
        case c3 => unfold maxLen; omega
        case c4 => omega
        case c5 => simp; omega
        intro v' W2 hap
        obtain ⟨a', cp', hv⟩ := hap.shape
        subst hv
        have HST : Hid ((m + 1 = (34 :: qL (s.data.toList.take (k + 1))).length) ∧ OwRow 5 w W2 (.slice a' (m + 1) cp') ((34 :: qL (s.data.toList.take (k + 1))).map cellB)) := by
          rw [Hid, HTK2.out]
          have hml := HML.out
          refine ⟨by simp at hml ⊢; omega, ?_⟩
          have := (HR.out.carry (pbel1 _ _)).step (ys := [cellB s[k]]) (by rw [HML.out]; exact hap)
          simpa using this
        clear hap
        go_wp2
        go_roundg (s.size - (k + 1))
        case measure => omega
        case rel => exact ⟨k + 1, m + 1, _, _, by go_num, by omega, rfl, rfl, by omega, HST⟩
      | true =>
        have HSG : Hid (isSign s[k] = true) := hsg
        have HTK2 : Hid (qL (s.data.toList.take (k + 1)) = acc ++ [92] ++ [s[k]]) := by
          have := HTK.out; rw [HSG.out] at this; rw [Hid]; simpa using this
        clear hsg HTK
        go_wp2_with (first
          | (go_at_call 71; refine Calls.mono (sign_is _ _ HSG.out) ?_; rintro e w' ⟨rfl, hw'⟩; subst w')
          | (at_builtin; refine wpList_own_append _ rfl _ _ 41 41 rfl w.heap.size 5 i0 _ 1 Tryz.underlying41 hi hz0 hz1 hz2 rfl _ m ((34 :: acc).map cellB) rfl (own_carryP HRM.out (pbel1 _ _)) _ 1 [cellB 92] rfl (src_By wr 92 _ rfl) ?c3 ?c4 ?c5 ?_))
        case c3 => unfold maxLen; omega
        case c4 => omega
        case c5 => simp; omega
        intro v1 W1 hap1
        obtain ⟨a1, c1, hv1⟩ := hap1.shape
        subst hv1
        have HR1 : Hid (OwRow 5 w W1 (.slice a1 (m + 1) c1) ((34 :: (acc ++ [92])).map cellB)) := by
          have := (HR.out.carry (pbel1 _ _)).step (ys := [cellB 92]) (by rw [HML.out]; exact hap1)
          rw [Hid]; simpa using this
        have HML1 : Hid (((34 :: (acc ++ [92])).map cellB).length = m + 1) := by
          have := HML.out; rw [Hid]; simp at this ⊢; omega
        have HRM1 : Hid (W1.ownsRow w.heap.size 5 1 (.slice a1 (m + 1) c1) (m + 1) ((34 :: (acc ++ [92])).map cellB)) := by
          have := HR1.out.row; rw [HML1.out] at this; exact this
        have hle1 : w.heap.size ≤ W1.heap.size := HR1.out.le
        clear hap1
        go_wp2_with (at_builtin; refine wpList_own_append _ rfl _ _ 41 41 rfl w.heap.size 5 i0 _ 1 Tryz.underlying41 hi hz0 hz1 hz2 rfl _ (m + 1) ((34 :: (acc ++ [92])).map cellB) rfl (own_carryP HRM1.out (pbel1 _ _)) _ 1 [cellB s[k]] rfl (src_By W1 s[k] _ rfl) ?c3 ?c4 ?c5 ?_)
        case c3 => unfold maxLen; omega
        case c4 => omega
        case c5 => simp; omega
        intro v' W2 hap
        obtain ⟨a', cp', hv⟩ := hap.shape
        subst hv
        have HST : Hid ((m + 1 + 1 = (34 :: qL (s.data.toList.take (k + 1))).length) ∧ OwRow 5 w W2 (.slice a' (m + 1 + 1) cp') ((34 :: qL (s.data.toList.take (k + 1))).map cellB)) := by
          rw [Hid, HTK2.out]
          have hml := HML.out
          refine ⟨by simp at hml ⊢; omega, ?_⟩
          have := (HR1.out.carry (pbel1 W1 _)).step (W2 := W2) (v' := .slice a' (m + 1 + 1) cp') (ys := [cellB s[k]]) (by rw [HML1.out]; simpa using hap)
          simpa using this
        clear hap
        go_wp2
        go_roundg (s.size - (k + 1))
        case measure => omega
        case rel => exact ⟨k + 1, m + 1 + 1, _, _, by go_num, by omega, rfl, rfl, by omega, HST⟩
    · obtain rfl : k = s.size := by omega
      have HTL : Hid (s.data.toList.take s.size = s.data.toList) := List.take_of_length_le (by simp)
      have HR : Hid (OwRow 5 w wr (.slice a m c) ((34 :: qL (s.data.toList.take s.size)).map cellB)) := I.out.2
      rw [HTL.out] at HR HML
      have HRM : Hid (wr.ownsRow w.heap.size 5 1 (.slice a m c) m ((34 :: qL s.data.toList).map cellB)) := by
        have := HR.out.row; rw [HML.out] at this; exact this
      obtain ⟨acc, hacc⟩ : ∃ acc, acc = qL s.data.toList := ⟨_, rfl⟩
      have HAC : Hid (acc = qL s.data.toList) := hacc
      rw [← hacc] at HR HML HRM
      clear I hacc
      go_wp2_with (at_builtin; refine wpList_own_append _ rfl _ _ 41 41 rfl w.heap.size 5 i0 _ 1 Tryz.underlying41 hi hz0 hz1 hz2 rfl _ m ((34 :: acc).map cellB) rfl (own_carryP HRM.out (pbel1 _ _)) _ 1 [cellB 34] rfl (src_By wr 34 _ rfl) ?c3 ?c4 ?c5 ?_)
      case c3 => unfold maxLen; omega
      case c4 => omega
      case c5 => simp; omega
      intro v' W2 hap
      obtain ⟨a', cp', hv⟩ := hap.shape
      subst hv
      have HST : Hid (OwRow 5 w W2 (.slice a' (m + 1) cp') ((34 :: (acc ++ [34])).map cellB)) := by
        have := (HR.out.carry (pbel1 _ _)).step (ys := [cellB 34]) (by rw [HML.out]; exact hap)
        rw [Hid]; simpa using this
      have hcv : (convert 41 9 (.slice a' (m + 1) cp')).run Tryz.prog W2 = .ok (.string (ba (34 :: (acc ++ [34])))) W2 := conv_own (by have := HST.out.row; rw [List.length_map] at this; exact this)
      obtain ⟨t, ht⟩ : ∃ t, t = ba (34 :: (acc ++ [34])) := ⟨_, rfl⟩
      have HT : Hid (t = ba (34 :: (acc ++ [34]))) := ht
      rw [← ht] at hcv
      clear hap ht
      go_wp2
      go_ret
      exact ⟨by rw [← HAC.out, ← HT.out]; rfl, HST.out.bel⟩
end Go.Proofs.YtcckoncgfmbhiaaGreatDoor
