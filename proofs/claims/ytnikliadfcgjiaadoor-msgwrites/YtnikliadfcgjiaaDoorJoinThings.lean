/- Things (wigwaglaw02.Thing): a slice of them that came in; 'few' copies at most so many, their texts cut. -/
import Derived.Test.YtnikliadfcgjiaaDoorRows
import Derived.Test.YtnikliadfcgjiaaDoorAid
import Derived.Test.YtnikliadfcgjiaaDoorCut
import Derived.Deep.Slices
import Derived.WalkKit
import Derived.ProofKit
import Derived.OpenShut
import Derived.WalkLawsBesides
import Derived.Outline
import Derived.Test.YtnikliadfcgjiaaDoorCodeKeep
import Derived.Test.YtnikliadfcgjiaaDoorCodeAwake
import Derived.Deep.RegionWith
import Derived.Laws.IdiomStrings
import Derived.Test.YtnikliadfcgjiaaDoorMsRef
import Derived.Deep.CutBlock
import Derived.Deep.DeepCutAuto
import Derived.Deep.RegionLaw
import Derived.Test.YtnikliadfcgjiaaDoorCodeIs
set_option linter.unnecessarySimpa false
namespace Go.Proofs.YtnikliadfcgjiaaDoor
open Go.ChangeShapes Go.WideShapes Go.ChangeAt Go.RowKit Go.Deep
set_option linter.unusedVariables false

structure Th where
  kind : Int
  n : Int
  u : Nat
  s : ByteArray

def th0 : Th := ⟨0, 0, 0, ByteArray.empty⟩

/-- A thing as cells. -/
def Th.cells (t : Th) : List Value := [.int .i64 t.kind, .int .i64 t.n, .int .u64 t.u, .string t.s]
/-- What may stand in a thing. -/
def Th.ok (t : Th) : Prop := (-9223372036854775808 ≤ t.kind ∧ t.kind ≤ 9223372036854775807) ∧ (-9223372036854775808 ≤ t.n ∧ t.n ≤ 9223372036854775807) ∧ t.u < 18446744073709551616 ∧ t.s.size ≤ maxLen
/-- The thing with its text cut. -/
def Th.cut (t : Th) (n : Nat) : Th := { t with s := Go.Proofs.YtnikliadfcgjiaaDoor.cut t.s n }

/-- The things ts lie at the address, one behind the other. -/
structure ThAt (w : World) (b off len : Nat) (ts : List Th) : Prop where
  lenEq : ts.length = len
  c0 : ∀ j, j < len → w.cell? ⟨b, off + j * 4, none⟩ = some (.int .i64 (ts.getD j th0).kind)
  c1 : ∀ j, j < len → w.cell? ⟨b, off + j * 4 + 1, none⟩ = some (.int .i64 (ts.getD j th0).n)
  c2 : ∀ j, j < len → w.cell? ⟨b, off + j * 4 + 2, none⟩ = some (.int .u64 (ts.getD j th0).u)
  c3 : ∀ j, j < len → w.cell? ⟨b, off + j * 4 + 3, none⟩ = some (.string (ts.getD j th0).s)
  ok : ∀ t ∈ ts, t.ok

theorem take_snocT (ts : List Th) (k : Nat) (h : k < ts.length) : ts.take (k + 1) = ts.take k ++ [ts.getD k th0] := by
  rw [List.take_succ_eq_append_getElem h]; simp [List.getD, h]

def fewCells (ts : List Th) (k : Nat) : List Value := (ts.take k).flatMap fun t => (t.cut 200).cells

/-- A slice of things that came in. -/
def IsThings (w : World) (a : Option Addr) (len cap : Nat) (ts : List Th) : Prop :=
  (len = 0 ∧ ts = []) ∨ ∃ b off, a = some ⟨b, off, none⟩ ∧ 0 < len ∧ len ≤ maxLen ∧ b < w.heap.size ∧ ThAt w b off len ts

end Go.Proofs.YtnikliadfcgjiaaDoor

/- What wigwaglaw02.put and write do: a thing's bytes are written, or told by the document. -/
namespace Go.Proofs.YtnikliadfcgjiaaDoor
open Go.ChangeShapes Go.WideShapes Go.ChangeAt Go.RowKit
set_option linter.unusedVariables false

/-- A thing's bytes. -/
def Th.bytes (t : Th) : List UInt8 :=
  if t.kind = 1 then numB t.u else if t.kind = 2 ∨ t.kind = 4 then numB (zig t.n) else if t.kind = 3 then numB t.s.size ++ t.s.data.toList else []

theorem Kept.alloc (w : World) (o : Obj) (p : Nat) (v : Value) : Kept w (w.alloc o) p v v :=
  ⟨rfl, rfl, rfl, by simp, fun k hk _ _ => Below.heap_alloc w o k hk, fun k hk => .inl hk⟩

theorem Th.bytes_len (t : Th) (h : t.ok) (hs : t.s.size ≤ 200) : t.bytes.length ≤ 210 := by
  unfold Th.bytes
  obtain ⟨_, hn, hu, _⟩ := h
  have h1 := numB_len10 t.u hu
  have h2 := numB_len10 (zig t.n) (zig_lt t.n hn.1 hn.2)
  have h3 := numB_len10 t.s.size (by omega)
  split
  · omega
  · split
    · omega
    · split
      · simp; omega
      · simp

end Go.Proofs.YtnikliadfcgjiaaDoor

/- The document's bytes (wigwagref02.Number, Int, Text; wigwaglaw02.write) are the same plain lists. -/
namespace Go.Proofs.YtnikliadfcgjiaaDoor
open Go.ChangeShapes Go.WideShapes Go.ChangeAt Go.RowKit
set_option linter.unusedVariables false

theorem conv_one (W : World) (b : Nat) (x : Int) (c : UInt8) (hx : x = (c.toNat : Int)) (h : W.cell? ⟨b, 0, none⟩ = some (.int .u8 x)) :
    (convert 57 9 (.slice (some ⟨b, 0, none⟩) 1 1)).run Tryd.prog W = .ok (.string ⟨#[c]⟩) W := by
  subst hx
  exact run_convert_bytes_back (P := Tryd.prog) W 57 9 5 ⟨b, 0, none⟩ 1 [c] Tryd.underlying57 Tryd.underlying5 Tryd.underlying9 (fun j hj => by
    have hj0 : j = 0 := by simpa using hj
    subst hj0
    simpa [Addr.add] using h)

theorem bcell {W w1 : World} (hb : Below W.heap.size W w1) : (∀ b o, b < W.heap.size → w1.cell? ⟨b, o, none⟩ = W.cell? ⟨b, o, none⟩) ∧ (∀ b o, b < W.heap.size → w1.frozen? ⟨b, o, none⟩ = W.frozen? ⟨b, o, none⟩) :=
  ⟨fun b o h => hb.cell (p := ⟨b, o, none⟩) h, fun b o h => hb.frozen (p := ⟨b, o, none⟩) h⟩

theorem below_a {w w1 : World} {o : Obj} (h : Below (w.alloc o).drew.heap.size (w.alloc o).drew w1) : Below w.heap.size w w1 :=
  ((Below.refl _ _).alloc (Nat.le_refl _) o).drew.trans (h.mono (by show w.heap.size ≤ (w.alloc o).heap.size; simp))
theorem below_b {w w1 : World} (h : Below w.drew.heap.size w.drew w1) (o : Obj) : Below w.heap.size w (w1.alloc o) :=
  ((Below.refl _ _).drew.trans h).alloc (show w.heap.size ≤ w1.heap.size from h.size) o
theorem str_append (a b : List UInt8) : (ByteArray.mk a.toArray) ++ (ByteArray.mk b.toArray) = ⟨(a ++ b).toArray⟩ := by
  apply bytes_inj; simp

theorem ref_small (n : Nat) (w : World) (hn : n < 128) :
    Calls Tryd.prog 52 #[.int .u64 n] w fun e w' => e = .returned (.string ⟨(numB n).toArray⟩) ∧ Below w.heap.size w w' := by
  have HB : Hid (numB n = [UInt8.ofNat n]) := numB_small n hn
  obtain ⟨c, hc⟩ : ∃ c, c = UInt8.ofNat n := ⟨_, rfl⟩
  have hcv := conv_one (w.alloc (.cells #[.int .u8 (n : Int)] 5)) w.heap.size n c (by rw [hc, ofNat_toNat n (by omega)]) (by simp)
  have HC : Hid (c = UInt8.ofNat n) := hc
  clear hc
  have hni : (n : Int) < 128 := by omega
  go_enter Tryd.func52, Tryd.ntmps52
  go_wp2
  go_ret
  exact ⟨ret_s (by rw [HB.out, HC.out]), (Below.refl _ _).alloc (Nat.le_refl _) _⟩

theorem ref_number (n : Nat) (w : World) (hn : n < 18446744073709551616) :
    Calls Tryd.prog 52 #[.int .u64 n] w fun e w' => e = .returned (.string ⟨(numB n).toArray⟩) ∧ Below w.heap.size w w' := by
  induction n using Nat.strongRecOn generalizing w with
  | _ n ih =>
    by_cases hs : n < 128
    · exact ref_small n w hs
    · have ih' : Hid (∀ w, Calls Tryd.prog 52 #[.int .u64 (IntKind.u64.wrap ((n : Int) / 128))] w fun e w' => e = .returned (.string ⟨(numB (n / 128)).toArray⟩) ∧ Below w.heap.size w w') := fun w => by
        have e : IntKind.u64.wrap ((n : Int) / 128) = ((n / 128 : Nat) : Int) := by rw [IntWalk.u64_in _ ⟨by omega, by omega⟩]; omega
        rw [e]; exact ih (n / 128) (by omega) w (by omega)
      clear ih
      obtain ⟨c, hc⟩ : ∃ c, c = UInt8.ofNat (n % 128 + 128) := ⟨_, rfl⟩
      have HB : Hid (numB n = c :: numB (n / 128)) := (by rw [hc]; exact numB_big n hs : numB n = c :: numB (n / 128))
      have hcv : ∀ (W : World) (b : Nat), W.cell? ⟨b, 0, none⟩ = some (.int .u8 (IntKind.u8.wrap (IntKind.u64.wrap (128 + (n : Int).tmod 128)))) → (convert 57 9 (.slice (some ⟨b, 0, none⟩) 1 1)).run Tryd.prog W = .ok (.string ⟨#[c]⟩) W :=
        fun W b h => conv_one W b _ c (by rw [hc, ofNat_toNat _ (by omega), IntKind.wrap_u64, IntKind.wrap_u8, Int.tmod_eq_emod_of_nonneg (by omega)]; omega) h
      clear hc
      have h10 := numB_len10 (n / 128) (by omega)
      have hni : ¬ (n : Int) < 128 := by omega
      have hn1 : (n : Int) ≤ 18446744073709551615 := by omega
      go_enter Tryd.func52, Tryd.ntmps52
      go_wp2_with fail
      go_region_with (first | (go_at_call 52; refine (ih'.out _).mono ?_; rintro e w1 ⟨rfl, hb1⟩; obtain ⟨hc1, hf1⟩ := bcell hb1))
      all_goals (try go_wp2)
      all_goals go_ret
      all_goals exact ⟨ret_s (by rw [HB.out]; exact str_append [c] (numB (n / 128))), by first | exact below_a hb1 | exact below_b hb1 _⟩

theorem ref_number_int (x : Int) (n : Nat) (w : World) (hx : x = n) (hn : n < 18446744073709551616) :
    Calls Tryd.prog 52 #[.int .u64 x] w fun e w' => e = .returned (.string ⟨(numB n).toArray⟩) ∧ Below w.heap.size w w' := by
  subst hx; exact ref_number n w hn

theorem ref_int (n : Int) (w : World) (h0 : -9223372036854775808 ≤ n) (h1 : n ≤ 9223372036854775807) :
    Calls Tryd.prog 39 #[.int .i64 n] w fun e w' => e = .returned (.string ⟨(numB (zig n)).toArray⟩) ∧ Below w.heap.size w w' := by
  have hz := zig_lt n h0 h1
  by_cases hn : 0 ≤ n
  · have hzz : Hid (zig n = (2 * n).toNat) := (by rw [zig, if_pos hn] : zig n = (2 * n).toNat)
    go_enter Tryd.func39, Tryd.ntmps39
    go_wp2_with fail
    refine (ref_number_int _ (zig n) _ ?_ hz).mono ?_
    · rw [hzz.out]; omega
    rintro e w' ⟨rfl, hb⟩
    go_wp2
    go_ret
    exact ⟨rfl, hb⟩
  · have hzz : Hid (zig n = (-2 * n - 1).toNat) := (by rw [zig, if_neg hn] : zig n = (-2 * n - 1).toNat)
    go_enter Tryd.func39, Tryd.ntmps39
    go_wp2_with fail
    refine (ref_number_int _ (zig n) _ ?_ hz).mono ?_
    · rw [hzz.out]; omega
    rintro e w' ⟨rfl, hb⟩
    go_wp2
    go_ret
    exact ⟨rfl, hb⟩

theorem ref_text (s : ByteArray) (w : World) (hs : s.size ≤ 1000000) :
    Calls Tryd.prog 40 #[.string s] w fun e w' => e = .returned (.string ⟨(numB s.size ++ s.data.toList).toArray⟩) ∧ Below w.heap.size w w' := by
  have h10 := numB_len10 s.size (by omega)
  go_enter Tryd.func40, Tryd.ntmps40
  go_wp2_with fail
  refine (ref_number_int _ s.size _ rfl (by omega)).mono ?_
  rintro e w' ⟨rfl, hb⟩
  go_wp2
  all_goals go_ret
  all_goals exact ⟨ret_s (str_append (numB s.size) s.data.toList), hb⟩

end Go.Proofs.YtnikliadfcgjiaaDoor

/- The document's bytes of a message. -/
namespace Go.Proofs.YtnikliadfcgjiaaDoor
open Go.ChangeShapes Go.WideShapes Go.ChangeAt Go.RowKit
set_option linter.unusedVariables false

/-- Bytes as a text. -/
def bs (l : List UInt8) : ByteArray := ⟨l.toArray⟩
theorem bs_app (a b : List UInt8) : bs a ++ bs b = bs (a ++ b) := str_append a b
theorem bs_size (l : List UInt8) : (bs l).size = l.length := ba_size l
theorem rint (n : Int) (w : World) (h : i64 n) : Calls Tryd.prog 39 #[.int .i64 n] w fun e w' => e = .returned (.string (bs (intB n))) ∧ Below w.heap.size w w' := ref_int n w h.1 h.2
theorem rtext (s : ByteArray) (w : World) (hs : s.size ≤ 1000000) : Calls Tryd.prog 40 #[.string s] w fun e w' => e = .returned (.string (bs (txtB s))) ∧ Below w.heap.size w w' := ref_text s w hs
theorem bsum (a b : List UInt8) (h : a.length + b.length ≤ 9223372036854775807) : (9223372036854775807 < (bs a).size + (bs b).size) = False := eq_false (by rw [bs_size, bs_size]; omega)
theorem bsum3 (a b c : List UInt8) (h : a.length + b.length + c.length ≤ 9223372036854775807) : (9223372036854775807 < (bs a).size + ((bs b).size + (bs c).size)) = False := eq_false (by rw [bs_size, bs_size, bs_size]; omega)
theorem int_len (n : Int) (h : i64 n) : (intB n).length ≤ 10 := numB_len10 _ (zig_lt _ h.1 h.2)

set_option maxRecDepth 100000 in
set_option maxHeartbeats 8000000 in
theorem rmtext_any (m : Mg) (fa : Option Addr) (fc : Nat) (va : Option Addr) (vc : Nat) (w : World) (hf : InRow 1 encS okS ByteArray.empty w fa m.fl.length m.fl) (hv : InRow 2 Vl.cells Vl.ok vl0 w va m.vl.length m.vl)
    (hc : chk m = 0) (hl : (m.fl.flatMap txtB).length + (m.vl.flatMap vlB).length + (txtB m.pay).length ≤ 700000) :
    Calls Tryd.prog 23 #[m.val fa fc va vc] w fun e w' => e = .returned (.string (bs (mB m))) ∧ Below w.heap.size w w' := by
  have hvn := hv.2.1
  have hfn := hf.2.1
  obtain ⟨g1, g2⟩ := chk_group hc
  obtain ⟨s1, s2, hK⟩ := chk_shape hc
  have hk := chk_kind hK
  have hE : m.kind = 5 ∨ m.kind = 3 ∨ m.kind = 4 → i64 m.pub ∧ i64 m.seq ∧ i64 m.hops := fun h => by
    have : chkE m = 0 := by
      unfold chkK at hK
      rw [if_neg (by omega), if_neg (by omega)] at hK
      split at hK
      · split at hK
        · omega
        · exact hK
      · rw [if_pos (by omega)] at hK; exact hK
    obtain ⟨q1, q2, q3, q4, q5, q6, q7⟩ := chkE_zero this
    exact ⟨i64_small _ (by omega) (by omega), i64_small _ (by omega) (by omega), i64_small _ (by omega) (by omega)⟩
  have hki : i64 m.kind := i64_small _ (by omega) (by omega)
  clear s1 s2 hK hc
  unfold Mg.val
  obtain ⟨W1, hW1⟩ : ∃ W1, W1 = w.alloc (.cells #[.int .i64 m.kind, .string m.group, .bool m.any, .slice fa m.fl.length fc, .int .i64 m.pub, .int .i64 m.seq, .int .i64 m.hops, .slice va m.vl.length vc, .string m.pay] 37) := ⟨_, rfl⟩
  have b0 : Below w.heap.size w W1 := by rw [hW1]; exact below1 _ _
  have pB : W1.heap[w.heap.size]? = some (.cells #[.int .i64 m.kind, .string m.group, .bool m.any, .slice fa m.fl.length fc, .int .i64 m.pub, .int .i64 m.seq, .int .i64 m.hops, .slice va m.vl.length vc, .string m.pay] 37 (0, 0)) := by rw [hW1]; exact heap_alloc_new w _
  obtain ⟨x0, x1, x2, x3, x4, x5, x6, x7, x8⟩ := cells9 pB
  have xl := lt_of_block pB
  have HF : Hid (InRow 1 encS okS ByteArray.empty W1 fa m.fl.length m.fl ∧ InRow 2 Vl.cells Vl.ok vl0 W1 va m.vl.length m.vl) := ⟨hf.below (Nat.le_refl _) b0, hv.below (Nat.le_refl _) b0⟩
  clear pB hf hv
  have lk := int_len m.kind hki
  have lg := txt_bound m.group 40 g2 (by omega)
  have z1 := bsum (intB m.kind) (txtB m.group) (by omega)
  have hlf : (m.fl.flatMap txtB).length ≤ 700000 := by omega
  have hlv : (m.vl.flatMap vlB).length ≤ 700000 := by omega
  have hlp : (txtB m.pay).length ≤ 700000 := by omega
  clear hl
  go_enter Tryd.func23, Tryd.ntmps23
  go_upto_region 1 with fail
  rw [← hW1]
  clear hW1
  go_upto_region 1 with fail
  go_cut [3] (fun v wx => v = .string (bs (intB m.kind ++ txtB m.group)) ∧ Hid (Below W1.heap.size W1 wx))
  case first =>
    go_region_law
      (first
        | (go_simp; go_at_call 40; refine Calls.mono (rtext m.group _ (by omega)) ?_; rintro e v2 ⟨rfl, hbB⟩)
        | (go_simp; go_at_call 39; refine Calls.mono (rint m.kind _ hki) ?_; rintro e v1 ⟨rfl, hbA⟩; have hbA' : Below W1.heap.size W1 v1 := ⟨hbA.os, hbA.tape, hbA.output, hbA.size, hbA.block⟩; have cA := below_cells hbA'; have lA := hbA'.size))
    all_goals (try go_wp2_with fail)
    all_goals go_meet
    all_goals exact ⟨by rw [bs_app], hbA'.trans (hbB.mono hbA'.size)⟩
  case rest =>
    obtain ⟨rfl, HX⟩ := hcut
    rename World => w2
    have e2 := below_cells HX.out
    have l2 := HX.out.size
    have xl2 : w.heap.size < w2.heap.size := by omega
    obtain ⟨L, hL⟩ : ∃ L, L = intB m.kind ++ txtB m.group := ⟨_, rfl⟩
    rw [← hL]
    have hLl : L.length ≤ 100 := by rw [hL]; simp; omega
    have HM : Hid (mB m = L ++ tlB m) := (by rw [hL]; unfold mB; simp : mB m = L ++ tlB m)
    clear hL z1 lk lg
    have b2 := b0.trans (HX.out.mono b0.size)
    rcases hk with hk | hk | hk | hk | hk
    · have q1 := beq_t hk
      have HT : Hid (tlB m = if m.any = true then intB (-1) else intB m.fl.length ++ m.fl.flatMap txtB) := (by unfold tlB; rw [if_pos hk] : tlB m = _)
      clear hk hE
      have h1 := HF.out.1
      cases ha : m.any with
      | true =>
        rw [ha, if_pos rfl] at HT
        rw [ha] at x2
        have zz := bsum L (intB (-1)) (by have := int_len (-1) (i64_small _ (by omega) (by omega)); omega)
        go_wp2_with fail
        refine (rint (-1) _ (i64_small _ (by omega) (by omega))).mono ?_
        rintro e w3 ⟨rfl, hb3⟩
        go_wp2
        go_ret
        exact ⟨ret_s (by rw [HM.out, HT.out, bs_app]), b2.trans (hb3.mono b2.size)⟩
      | false =>
        rw [ha, if_neg (by simp)] at HT
        rw [ha] at x2
        have hnl : i64 (m.fl.length : Int) := by unfold i64; omega
        have ln := int_len _ hnl
        have zz := bsum L (intB m.fl.length) (by omega)
        go_wp2_with fail
        refine (rint m.fl.length _ hnl).mono ?_
        rintro e w3 ⟨rfl, hb3⟩
        have e3 := below_cells hb3
        have b3 := b2.trans (hb3.mono b2.size)
        have H13 : Hid (Below W1.heap.size W1 w3) := HX.out.trans (hb3.mono HX.out.size)
        have hs3 := hb3.size
        obtain ⟨Q, hQ⟩ : ∃ Q, L ++ intB m.fl.length = Q := ⟨_, rfl⟩
        have hQl : Q.length ≤ 200 := by rw [← hQ]; simp; omega
        have HQ : Hid (L ++ intB m.fl.length = Q) := hQ
        clear hQ
        go_wp2
        go_loopw [3, 32] (fun sx x wr => ∃ i : Nat, x = .int .i64 i ∧ i ≤ m.fl.length ∧ sx = .string (bs (Q ++ (m.fl.take i).flatMap txtB)) ∧ Hid (Below W1.heap.size W1 wr)) (fun _ x _ => m.fl.length - (intOf x).toNat)
        case atStart => exact ⟨0, rfl, Nat.zero_le _, by rw [bs_app, HQ.out]; simp, H13⟩
        case round =>
          obtain ⟨i, rfl, hi, rfl, R⟩ := hrel
          by_cases hlt : i < m.fl.length
          · obtain ⟨b, o, rfl, hb, hok, hcell⟩ := h1.get i hlt
            have HS : Hid ((m.fl.take (i + 1)).flatMap txtB = (m.fl.take i).flatMap txtB ++ txtB (m.fl.getD i ByteArray.empty)) := flat_snocS m.fl i hlt
            have hsz : (m.fl.getD i ByteArray.empty).size ≤ 1000000 ∧ (Q ++ (m.fl.take i).flatMap txtB).length + (txtB (m.fl.getD i ByteArray.empty)).length ≤ 9223372036854775807 := by
              have hm : m.fl.getD i ByteArray.empty ∈ m.fl := by rw [List.getD_eq_getElem?_getD, List.getElem?_eq_getElem hlt]; exact List.getElem_mem _
              have q1 := flat_le txtB m.fl _ hm
              have q2 := txt_len (m.fl.getD i ByteArray.empty)
              have q3 := flat_take_le txtB m.fl i
              refine ⟨by omega, ?_⟩
              simp only [List.length_append]; omega
            generalize m.fl.getD i ByteArray.empty = x at hcell HS hsz hok
            have k0 := hcell 0 (by omega)
            have e0 : wr.cell? ⟨b, o + i * 1 + 0, none⟩ = W1.cell? ⟨b, o + i * 1 + 0, none⟩ := R.out.cell (p := ⟨b, o + i * 1 + 0, none⟩) hb
            rw [← e0] at k0
            simp [encS] at k0
            have zz := bsum _ _ hsz.2
            have hbl : b < wr.heap.size := by have := R.out.size; omega
            clear hcell e0 hok
            go_wp2_with fail
            refine (rtext x _ hsz.1).mono ?_
            rintro e w4 ⟨rfl, hb4⟩
            have HN : Hid (Below W1.heap.size W1 w4) := R.out.trans (hb4.mono R.out.size)
            go_wp2
            go_roundw
            case rel => exact ⟨i + 1, by go_num, hlt, by rw [bs_app, HS.out, List.append_assoc], HN⟩
            case measure => simp [intOf]; omega
          · obtain rfl : i = m.fl.length := by omega
            go_wp2
            go_ret
            refine ⟨ret_s ?_, b0.trans (R.out.mono b0.size)⟩
            rw [HM.out, HT.out, ← HQ.out, List.take_length, List.append_assoc]
    · have q1 := beq_f (show ¬ m.kind = 1 by omega)
      have q2 := beq_t hk
      have HT : Hid (tlB m = []) := (by unfold tlB; rw [if_neg (by omega), if_neg (by omega)] : tlB m = [])
      clear hk hE
      go_wp2
      go_ret
      exact ⟨ret_s (by rw [HM.out, HT.out, List.append_nil]), b2⟩
    · have q1 := beq_f (show ¬ m.kind = 1 by omega)
      have q2 := beq_f (show ¬ m.kind = 2 by omega)
      have q5 := beq_t hk
      obtain ⟨i1, i2, i3⟩ := hE (by omega)
      have d1 := int_len _ i1
      have d2 := int_len _ i2
      have d3 := int_len _ i3
      have zz1 := bsum (intB m.pub) (intB m.seq) (by omega)
      have zz2 := bsum3 L (intB m.pub) (intB m.seq) (by omega)
      have HT : Hid (tlB m = intB m.pub ++ intB m.seq) := (by unfold tlB; rw [if_neg (by omega), if_pos (by omega), if_pos hk, List.append_nil] : tlB m = _)
      clear hk hE
      go_upto_region 14 with fail
      go_cut [3] (fun v wx => v = .string (bs (L ++ (intB m.pub ++ intB m.seq))) ∧ Hid (Below w2.heap.size w2 wx))
      case first =>
        go_region_law
          (first
            | (have hguard := hbA'; clear hguard; go_simp; go_at_call 39; refine Calls.mono (rint m.seq _ i2) ?_; rintro e v2 ⟨rfl, hbB⟩)
            | (go_simp; go_at_call 39; refine Calls.mono (rint m.pub _ i1) ?_; rintro e v1 ⟨rfl, hbA⟩; have hbA' : Below w2.heap.size w2 v1 := ⟨hbA.os, hbA.tape, hbA.output, hbA.size, hbA.block⟩; have cA := below_cells hbA'; have lA := hbA'.size))
        all_goals (try go_wp2_with fail)
        all_goals go_meet
        all_goals exact ⟨by rw [bs_app, bs_app], hbA'.trans (hbB.mono hbA'.size)⟩
      case rest =>
        obtain ⟨rfl, HX3⟩ := hcut
        rename World => w3
        have e3 := below_cells HX3.out
        have l3 := HX3.out.size
        have xl3 : w.heap.size < w3.heap.size := by omega
        go_wp2
        go_ret
        exact ⟨ret_s (by rw [HM.out, HT.out]), b2.trans (HX3.out.mono b2.size)⟩
    · have q1 := beq_f (show ¬ m.kind = 1 by omega)
      have q2 := beq_f (show ¬ m.kind = 2 by omega)
      have q5 := beq_f (show ¬ m.kind = 5 by omega)
      obtain ⟨i1, i2, i3⟩ := hE (by omega)
      have d1 := int_len _ i1
      have d2 := int_len _ i2
      have d3 := int_len _ i3
      have zz1 := bsum (intB m.pub) (intB m.seq) (by omega)
      have zz2 := bsum3 L (intB m.pub) (intB m.seq) (by omega)
      have HT : Hid (tlB m = intB m.pub ++ (intB m.seq ++ (intB m.hops ++ (intB m.vl.length ++ (m.vl.flatMap vlB ++ txtB m.pay))))) := (by unfold tlB; rw [if_neg (by omega), if_pos (by omega), if_neg (by omega)] : tlB m = _)
      clear hk hE
      go_upto_region 14 with fail
      go_cut [3] (fun v wx => v = .string (bs (L ++ (intB m.pub ++ intB m.seq))) ∧ Hid (Below w2.heap.size w2 wx))
      case first =>
        go_region_law
          (first
            | (have hguard := hbA'; clear hguard; go_simp; go_at_call 39; refine Calls.mono (rint m.seq _ i2) ?_; rintro e v2 ⟨rfl, hbB⟩)
            | (go_simp; go_at_call 39; refine Calls.mono (rint m.pub _ i1) ?_; rintro e v1 ⟨rfl, hbA⟩; have hbA' : Below w2.heap.size w2 v1 := ⟨hbA.os, hbA.tape, hbA.output, hbA.size, hbA.block⟩; have cA := below_cells hbA'; have lA := hbA'.size))
        all_goals (try go_wp2_with fail)
        all_goals go_meet
        all_goals exact ⟨by rw [bs_app, bs_app], hbA'.trans (hbB.mono hbA'.size)⟩
      case rest =>
        obtain ⟨rfl, HX3⟩ := hcut
        rename World => w3
        have e3 := below_cells HX3.out
        have l3 := HX3.out.size
        have xl3 : w.heap.size < w3.heap.size := by omega
        have b3 := b2.trans (HX3.out.mono b2.size)
        have hvl : i64 (m.vl.length : Int) := by unfold i64; omega
        have d4 := int_len _ hvl
        obtain ⟨L3, hL3⟩ : ∃ L3, L ++ (intB m.pub ++ intB m.seq) = L3 := ⟨_, rfl⟩
        rw [hL3]
        have hL3l : L3.length ≤ 130 := by rw [← hL3]; simp; omega
        have HL3 : Hid (L ++ (intB m.pub ++ intB m.seq) = L3) := hL3
        clear hL3 zz1 zz2
        have zz1 := bsum (intB m.hops) (intB m.vl.length) (by omega)
        have zz2 := bsum3 L3 (intB m.hops) (intB m.vl.length) (by omega)
        go_upto_region 17 with fail
        go_cut [3] (fun v wx => v = .string (bs (L3 ++ (intB m.hops ++ intB m.vl.length))) ∧ Hid (Below w3.heap.size w3 wx))
        case first =>
          go_region_law
            (first
              | (have hguard := hbA'; clear hguard; go_simp; go_at_call 39; refine Calls.mono (rint m.vl.length _ hvl) ?_; rintro e v2 ⟨rfl, hbB⟩)
              | (go_simp; go_at_call 39; refine Calls.mono (rint m.hops _ i3) ?_; rintro e v1 ⟨rfl, hbA⟩; have hbA' : Below w3.heap.size w3 v1 := ⟨hbA.os, hbA.tape, hbA.output, hbA.size, hbA.block⟩; have cA := below_cells hbA'; have lA := hbA'.size))
          all_goals (try go_wp2_with fail)
          all_goals go_meet
          all_goals exact ⟨by rw [bs_app, bs_app], hbA'.trans (hbB.mono hbA'.size)⟩
        case rest =>
          obtain ⟨rfl, HX4⟩ := hcut
          rename World => w4
          have e4 := below_cells HX4.out
          have l4 := HX4.out.size
          have xl4 : w.heap.size < w4.heap.size := by omega
          have H14 : Hid (Below W1.heap.size W1 w4) := HX.out.trans ((HX3.out.mono HX.out.size).trans (HX4.out.mono (Nat.le_trans HX.out.size HX3.out.size)))
          obtain ⟨Q, hQ⟩ : ∃ Q, L3 ++ (intB m.hops ++ intB m.vl.length) = Q := ⟨_, rfl⟩
          rw [hQ]
          have hQl : Q.length ≤ 200 := by rw [← hQ]; simp; omega
          have HQ : Hid (L3 ++ (intB m.hops ++ intB m.vl.length) = Q) := hQ
          clear hQ zz1 zz2
          have h1 := HF.out.2
          go_wp2
          go_loopw [3, 72] (fun sx x wr => ∃ i : Nat, x = .int .i64 i ∧ i ≤ m.vl.length ∧ sx = .string (bs (Q ++ (m.vl.take i).flatMap vlB)) ∧ Hid (Below W1.heap.size W1 wr)) (fun _ x _ => m.vl.length - (intOf x).toNat)
          case atStart => exact ⟨0, rfl, Nat.zero_le _, by simp, H14⟩
          case round =>
            obtain ⟨i, rfl, hi, rfl, R⟩ := hrel
            by_cases hlt : i < m.vl.length
            · obtain ⟨b, o, rfl, hb, hok, hcell⟩ := h1.get i hlt
              have HS : Hid ((m.vl.take (i + 1)).flatMap vlB = ((m.vl.take i).flatMap vlB ++ intB (m.vl.getD i vl0).num) ++ txtB (m.vl.getD i vl0).str) := flat_snocV m.vl i hlt
              have hsz : (m.vl.getD i vl0).str.size ≤ 1000000 ∧ (Q ++ (m.vl.take i).flatMap vlB).length ≤ 800000 ∧ (txtB (m.vl.getD i vl0).str).length ≤ 800000 := by
                have hm : m.vl.getD i vl0 ∈ m.vl := by rw [List.getD_eq_getElem?_getD, List.getElem?_eq_getElem hlt]; exact List.getElem_mem _
                have q1 := flat_le vlB m.vl _ hm
                have q2 := txt_len (m.vl.getD i vl0).str
                have q3 := flat_take_le vlB m.vl i
                have q6 : (vlB (m.vl.getD i vl0)).length = (intB (m.vl.getD i vl0).num).length + (txtB (m.vl.getD i vl0).str).length := by unfold vlB; simp
                refine ⟨by omega, ?_, by omega⟩
                simp only [List.length_append]; omega
              generalize m.vl.getD i vl0 = x at hcell HS hsz hok
              have e0 : ∀ j, wr.cell? ⟨b, j, none⟩ = W1.cell? ⟨b, j, none⟩ := fun j => R.out.cell (p := ⟨b, j, none⟩) hb
              have k0 := hcell 0 (by omega)
              have k1 := hcell 1 (by omega)
              simp only [Vl.cells, ← e0] at k0 k1
              simp at k0 k1
              have hbl : b < wr.heap.size := by have := R.out.size; omega
              have hnum : i64 x.num := hok.1
              have d5 := int_len _ hnum
              obtain ⟨L5, hL5⟩ : ∃ L5, Q ++ (m.vl.take i).flatMap vlB = L5 := ⟨_, rfl⟩
              rw [hL5] at hsz ⊢
              have HL5 : Hid (Q ++ (m.vl.take i).flatMap vlB = L5) := hL5
              clear hL5
              have zz1 := bsum (intB x.num) (txtB x.str) (by omega)
              have zz2 := bsum3 L5 (intB x.num) (txtB x.str) (by omega)
              obtain ⟨W7, hW7⟩ : ∃ W7, W7 = wr.alloc (.cells #[.int .i64 x.num, .string x.str] 52) := ⟨_, rfl⟩
              have b7 : Below wr.heap.size wr W7 := by rw [hW7]; exact below1 _ _
              have p7 : W7.heap[wr.heap.size]? = some (.cells #[.int .i64 x.num, .string x.str] 52 (0, 0)) := by rw [hW7]; exact heap_alloc_new wr _
              have y0 : W7.cell? ⟨wr.heap.size, 0, none⟩ = some (.int .i64 x.num) := blk_cell (j := 0) p7 (by simp)
              have y1 : W7.cell? ⟨wr.heap.size, 1, none⟩ = some (.string x.str) := blk_cell (j := 1) p7 (by simp)
              have yl := lt_of_block p7
              clear hcell e0 hok p7
              go_upto_region 21 with fail
              rw [← hW7]
              clear hW7 k0 k1
              go_upto_region 21 with fail
              go_region_law
                (first
                  | (go_simp; go_at_call 40; refine Calls.mono (rtext x.str _ hsz.1) ?_; rintro e v2 ⟨rfl, hbB⟩)
                  | (go_simp; go_at_call 39; refine Calls.mono (rint x.num _ hnum) ?_; rintro e v1 ⟨rfl, hbA⟩; have hbA' : Below W7.heap.size W7 v1 := ⟨hbA.os, hbA.tape, hbA.output, hbA.size, hbA.block⟩; have cA := below_cells hbA'; have lA := hbA'.size))
              all_goals
                have HN : Hid (Below W1.heap.size W1 v2) := R.out.trans ((b7.mono R.out.size).trans ((hbA'.trans (hbB.mono hbA'.size)).mono (Nat.le_trans R.out.size b7.size)))
                go_wp2
                go_roundw
                case rel => exact ⟨i + 1, by go_num, hlt, by rw [bs_app, bs_app, HS.out, ← HL5.out]; simp only [List.append_assoc], HN⟩
                case measure => simp [intOf]; omega
            · obtain rfl : i = m.vl.length := by omega
              have y8 : wr.cell? ⟨w.heap.size, 8, none⟩ = some (.string m.pay) := (R.out.cell (p := ⟨w.heap.size, 8, none⟩) xl).trans x8
              have yl : w.heap.size < wr.heap.size := by have := R.out.size; omega
              rw [List.take_length]
              have zz := bsum (Q ++ m.vl.flatMap vlB) (txtB m.pay) (by simp only [List.length_append]; omega)
              go_wp2_with fail
              refine (rtext m.pay _ (by have := txt_len m.pay; omega)).mono ?_
              rintro e w9 ⟨rfl, hb9⟩
              have b9 := b0.trans ((R.out.mono b0.size).trans (hb9.mono (Nat.le_trans b0.size R.out.size)))
              go_wp2
              go_ret
              refine ⟨ret_s ?_, b9⟩
              rw [HM.out, HT.out, bs_app, ← HQ.out, ← HL3.out]
              simp only [List.append_assoc]
    · have q1 := beq_f (show ¬ m.kind = 1 by omega)
      have q2 := beq_f (show ¬ m.kind = 2 by omega)
      have q5 := beq_f (show ¬ m.kind = 5 by omega)
      obtain ⟨i1, i2, i3⟩ := hE (by omega)
      have d1 := int_len _ i1
      have d2 := int_len _ i2
      have d3 := int_len _ i3
      have zz1 := bsum (intB m.pub) (intB m.seq) (by omega)
      have zz2 := bsum3 L (intB m.pub) (intB m.seq) (by omega)
      have HT : Hid (tlB m = intB m.pub ++ (intB m.seq ++ (intB m.hops ++ (intB m.vl.length ++ (m.vl.flatMap vlB ++ txtB m.pay))))) := (by unfold tlB; rw [if_neg (by omega), if_pos (by omega), if_neg (by omega)] : tlB m = _)
      clear hk hE
      go_upto_region 14 with fail
      go_cut [3] (fun v wx => v = .string (bs (L ++ (intB m.pub ++ intB m.seq))) ∧ Hid (Below w2.heap.size w2 wx))
      case first =>
        go_region_law
          (first
            | (have hguard := hbA'; clear hguard; go_simp; go_at_call 39; refine Calls.mono (rint m.seq _ i2) ?_; rintro e v2 ⟨rfl, hbB⟩)
            | (go_simp; go_at_call 39; refine Calls.mono (rint m.pub _ i1) ?_; rintro e v1 ⟨rfl, hbA⟩; have hbA' : Below w2.heap.size w2 v1 := ⟨hbA.os, hbA.tape, hbA.output, hbA.size, hbA.block⟩; have cA := below_cells hbA'; have lA := hbA'.size))
        all_goals (try go_wp2_with fail)
        all_goals go_meet
        all_goals exact ⟨by rw [bs_app, bs_app], hbA'.trans (hbB.mono hbA'.size)⟩
      case rest =>
        obtain ⟨rfl, HX3⟩ := hcut
        rename World => w3
        have e3 := below_cells HX3.out
        have l3 := HX3.out.size
        have xl3 : w.heap.size < w3.heap.size := by omega
        have b3 := b2.trans (HX3.out.mono b2.size)
        have hvl : i64 (m.vl.length : Int) := by unfold i64; omega
        have d4 := int_len _ hvl
        obtain ⟨L3, hL3⟩ : ∃ L3, L ++ (intB m.pub ++ intB m.seq) = L3 := ⟨_, rfl⟩
        rw [hL3]
        have hL3l : L3.length ≤ 130 := by rw [← hL3]; simp; omega
        have HL3 : Hid (L ++ (intB m.pub ++ intB m.seq) = L3) := hL3
        clear hL3 zz1 zz2
        have zz1 := bsum (intB m.hops) (intB m.vl.length) (by omega)
        have zz2 := bsum3 L3 (intB m.hops) (intB m.vl.length) (by omega)
        go_upto_region 17 with fail
        go_cut [3] (fun v wx => v = .string (bs (L3 ++ (intB m.hops ++ intB m.vl.length))) ∧ Hid (Below w3.heap.size w3 wx))
        case first =>
          go_region_law
            (first
              | (have hguard := hbA'; clear hguard; go_simp; go_at_call 39; refine Calls.mono (rint m.vl.length _ hvl) ?_; rintro e v2 ⟨rfl, hbB⟩)
              | (go_simp; go_at_call 39; refine Calls.mono (rint m.hops _ i3) ?_; rintro e v1 ⟨rfl, hbA⟩; have hbA' : Below w3.heap.size w3 v1 := ⟨hbA.os, hbA.tape, hbA.output, hbA.size, hbA.block⟩; have cA := below_cells hbA'; have lA := hbA'.size))
          all_goals (try go_wp2_with fail)
          all_goals go_meet
          all_goals exact ⟨by rw [bs_app, bs_app], hbA'.trans (hbB.mono hbA'.size)⟩
        case rest =>
          obtain ⟨rfl, HX4⟩ := hcut
          rename World => w4
          have e4 := below_cells HX4.out
          have l4 := HX4.out.size
          have xl4 : w.heap.size < w4.heap.size := by omega
          have H14 : Hid (Below W1.heap.size W1 w4) := HX.out.trans ((HX3.out.mono HX.out.size).trans (HX4.out.mono (Nat.le_trans HX.out.size HX3.out.size)))
          obtain ⟨Q, hQ⟩ : ∃ Q, L3 ++ (intB m.hops ++ intB m.vl.length) = Q := ⟨_, rfl⟩
          rw [hQ]
          have hQl : Q.length ≤ 200 := by rw [← hQ]; simp; omega
          have HQ : Hid (L3 ++ (intB m.hops ++ intB m.vl.length) = Q) := hQ
          clear hQ zz1 zz2
          have h1 := HF.out.2
          go_wp2
          go_loopw [3, 72] (fun sx x wr => ∃ i : Nat, x = .int .i64 i ∧ i ≤ m.vl.length ∧ sx = .string (bs (Q ++ (m.vl.take i).flatMap vlB)) ∧ Hid (Below W1.heap.size W1 wr)) (fun _ x _ => m.vl.length - (intOf x).toNat)
          case atStart => exact ⟨0, rfl, Nat.zero_le _, by simp, H14⟩
          case round =>
            obtain ⟨i, rfl, hi, rfl, R⟩ := hrel
            by_cases hlt : i < m.vl.length
            · obtain ⟨b, o, rfl, hb, hok, hcell⟩ := h1.get i hlt
              have HS : Hid ((m.vl.take (i + 1)).flatMap vlB = ((m.vl.take i).flatMap vlB ++ intB (m.vl.getD i vl0).num) ++ txtB (m.vl.getD i vl0).str) := flat_snocV m.vl i hlt
              have hsz : (m.vl.getD i vl0).str.size ≤ 1000000 ∧ (Q ++ (m.vl.take i).flatMap vlB).length ≤ 800000 ∧ (txtB (m.vl.getD i vl0).str).length ≤ 800000 := by
                have hm : m.vl.getD i vl0 ∈ m.vl := by rw [List.getD_eq_getElem?_getD, List.getElem?_eq_getElem hlt]; exact List.getElem_mem _
                have q1 := flat_le vlB m.vl _ hm
                have q2 := txt_len (m.vl.getD i vl0).str
                have q3 := flat_take_le vlB m.vl i
                have q6 : (vlB (m.vl.getD i vl0)).length = (intB (m.vl.getD i vl0).num).length + (txtB (m.vl.getD i vl0).str).length := by unfold vlB; simp
                refine ⟨by omega, ?_, by omega⟩
                simp only [List.length_append]; omega
              generalize m.vl.getD i vl0 = x at hcell HS hsz hok
              have e0 : ∀ j, wr.cell? ⟨b, j, none⟩ = W1.cell? ⟨b, j, none⟩ := fun j => R.out.cell (p := ⟨b, j, none⟩) hb
              have k0 := hcell 0 (by omega)
              have k1 := hcell 1 (by omega)
              simp only [Vl.cells, ← e0] at k0 k1
              simp at k0 k1
              have hbl : b < wr.heap.size := by have := R.out.size; omega
              have hnum : i64 x.num := hok.1
              have d5 := int_len _ hnum
              obtain ⟨L5, hL5⟩ : ∃ L5, Q ++ (m.vl.take i).flatMap vlB = L5 := ⟨_, rfl⟩
              rw [hL5] at hsz ⊢
              have HL5 : Hid (Q ++ (m.vl.take i).flatMap vlB = L5) := hL5
              clear hL5
              have zz1 := bsum (intB x.num) (txtB x.str) (by omega)
              have zz2 := bsum3 L5 (intB x.num) (txtB x.str) (by omega)
              obtain ⟨W7, hW7⟩ : ∃ W7, W7 = wr.alloc (.cells #[.int .i64 x.num, .string x.str] 52) := ⟨_, rfl⟩
              have b7 : Below wr.heap.size wr W7 := by rw [hW7]; exact below1 _ _
              have p7 : W7.heap[wr.heap.size]? = some (.cells #[.int .i64 x.num, .string x.str] 52 (0, 0)) := by rw [hW7]; exact heap_alloc_new wr _
              have y0 : W7.cell? ⟨wr.heap.size, 0, none⟩ = some (.int .i64 x.num) := blk_cell (j := 0) p7 (by simp)
              have y1 : W7.cell? ⟨wr.heap.size, 1, none⟩ = some (.string x.str) := blk_cell (j := 1) p7 (by simp)
              have yl := lt_of_block p7
              clear hcell e0 hok p7
              go_upto_region 21 with fail
              rw [← hW7]
              clear hW7 k0 k1
              go_upto_region 21 with fail
              go_region_law
                (first
                  | (go_simp; go_at_call 40; refine Calls.mono (rtext x.str _ hsz.1) ?_; rintro e v2 ⟨rfl, hbB⟩)
                  | (go_simp; go_at_call 39; refine Calls.mono (rint x.num _ hnum) ?_; rintro e v1 ⟨rfl, hbA⟩; have hbA' : Below W7.heap.size W7 v1 := ⟨hbA.os, hbA.tape, hbA.output, hbA.size, hbA.block⟩; have cA := below_cells hbA'; have lA := hbA'.size))
              all_goals
                have HN : Hid (Below W1.heap.size W1 v2) := R.out.trans ((b7.mono R.out.size).trans ((hbA'.trans (hbB.mono hbA'.size)).mono (Nat.le_trans R.out.size b7.size)))
                go_wp2
                go_roundw
                case rel => exact ⟨i + 1, by go_num, hlt, by rw [bs_app, bs_app, HS.out, ← HL5.out]; simp only [List.append_assoc], HN⟩
                case measure => simp [intOf]; omega
            · obtain rfl : i = m.vl.length := by omega
              have y8 : wr.cell? ⟨w.heap.size, 8, none⟩ = some (.string m.pay) := (R.out.cell (p := ⟨w.heap.size, 8, none⟩) xl).trans x8
              have yl : w.heap.size < wr.heap.size := by have := R.out.size; omega
              rw [List.take_length]
              have zz := bsum (Q ++ m.vl.flatMap vlB) (txtB m.pay) (by simp only [List.length_append]; omega)
              go_wp2_with fail
              refine (rtext m.pay _ (by have := txt_len m.pay; omega)).mono ?_
              rintro e w9 ⟨rfl, hb9⟩
              have b9 := b0.trans ((R.out.mono b0.size).trans (hb9.mono (Nat.le_trans b0.size R.out.size)))
              go_wp2
              go_ret
              refine ⟨ret_s ?_, b9⟩
              rw [HM.out, HT.out, bs_app, ← HQ.out, ← HL3.out]
              simp only [List.append_assoc]
end Go.Proofs.YtnikliadfcgjiaaDoor

/- api.Of of a reader's error is its code: errors.As is walked, round by round. -/
namespace Go.Proofs.YtnikliadfcgjiaaDoor
open Go.ChangeShapes Go.WideShapes Go.ChangeAt Go.RowKit Go.Extern.Stop Go.Stop Go.Extern
set_option linter.unusedVariables false

theorem valueOfP (t : Addr) (w : World) : Sem.run Tryd.prog (callFunc 41 #[.iface 68 (.pointer (some t))]) w
    = .ok (.value (.agg #[.pointer (some ⟨1, 68, none⟩), .pointer (some ⟨w.heap.size, 0, none⟩), .int .u64 150])) (w.alloc (.cells #[.pointer (some t)] 68)) := by
  rw [@run_callFunc_extern Tryd.prog 41 _ (fun args => ReflectliteValue.unpack (args.getD 0 (.tuple #[]))) Tryd.func41 (by kernel_rfl) (by kernel_rfl) (by kernel_rfl) (by kernel_rfl)]
  kernel_rfl
theorem valueOfC (c : Int) (w : World) : Sem.run Tryd.prog (callFunc 41 #[.iface 40 (.int .i64 c)]) w
    = .ok (.value (.agg #[.pointer (some ⟨1, 40, none⟩), .pointer (some ⟨w.heap.size, 0, none⟩), .int .u64 130])) (w.alloc (.cells #[.int .i64 c] 40)) := by
  rw [@run_callFunc_extern Tryd.prog 41 _ (fun args => ReflectliteValue.unpack (args.getD 0 (.tuple #[]))) Tryd.func41 (by kernel_rfl) (by kernel_rfl) (by kernel_rfl) (by kernel_rfl)]
  kernel_rfl
theorem typeOfV (a : Addr) (w : World) : Sem.run Tryd.prog (callFunc 42 #[.agg #[.pointer (some ⟨1, 68, none⟩), .pointer (some a), .int .u64 150]]) w
    = .ok (.value (.iface 112 (.agg #[.pointer (some ⟨1, 68, none⟩)]))) w := by
  rw [@run_callFunc_extern Tryd.prog 42 _ (ReflectliteValue.methodAny (ReflectliteValue.valueError "reflectlite.Value.Type" 0) (fun t _ _ _ => ReflectliteType.toType t)) Tryd.func42 (by kernel_rfl) (by kernel_rfl) (by kernel_rfl) (by kernel_rfl)]
  kernel_rfl
theorem m_kind (h : Value) (w : World) : (Go.method 255 112 (.agg #[h]) "Kind").run Tryd.prog w = .ok (70, h) w := by kernel_rfl
theorem kindP (w : World) : Sem.run Tryd.prog (callFunc 70 #[.pointer (some ⟨1, 68, none⟩)]) w = .ok (.value (.int .u8 22)) w := by
  rw [@run_callFunc_extern Tryd.prog 70 _ (ReflectliteType.abiMethod fun t => do pure (.int .u8 (← Rtype.kind t))) Tryd.func70 (by kernel_rfl) (by kernel_rfl) (by kernel_rfl) (by kernel_rfl)]
  kernel_rfl
theorem kindC (w : World) : Sem.run Tryd.prog (callFunc 70 #[.pointer (some ⟨1, 40, none⟩)]) w = .ok (.value (.int .u8 2)) w := by
  rw [@run_callFunc_extern Tryd.prog 70 _ (ReflectliteType.abiMethod fun t => do pure (.int .u8 (← Rtype.kind t))) Tryd.func70 (by kernel_rfl) (by kernel_rfl) (by kernel_rfl) (by kernel_rfl)]
  kernel_rfl
theorem m_elem (h : Value) (w : World) : (Go.method 255 112 (.agg #[h]) "Elem").run Tryd.prog w = .ok (81, .agg #[h]) w := by kernel_rfl
theorem m_impl (h : Value) (w : World) : (Go.method 255 112 (.agg #[h]) "Implements").run Tryd.prog w = .ok (82, .agg #[h]) w := by kernel_rfl
theorem m_assign (h : Value) (w : World) : (Go.method 255 112 (.agg #[h]) "AssignableTo").run Tryd.prog w = .ok (79, .agg #[h]) w := by kernel_rfl
theorem elemT (w : World) : Sem.run Tryd.prog (callFunc 81 #[.agg #[.pointer (some ⟨1, 68, none⟩)]]) w = .ok (.value (.iface 112 (.agg #[.pointer (some ⟨1, 40, none⟩)]))) w := by
  rw [@run_callFunc_extern Tryd.prog 81 _ (ReflectliteType.method ReflectliteType.elem) Tryd.func81 (by kernel_rfl) (by kernel_rfl) (by kernel_rfl) (by kernel_rfl)]
  kernel_rfl
theorem implT (w : World) : Sem.run Tryd.prog (callFunc 82 #[.agg #[.pointer (some ⟨1, 40, none⟩)], .iface 112 (.agg #[.pointer (some ⟨1, 30, none⟩)])]) w = .ok (.value (.bool true)) w := by
  rw [@run_callFunc_extern Tryd.prog 82 _ (ReflectliteType.relation "Implements" ReflectliteType.implements_) Tryd.func82 (by kernel_rfl) (by kernel_rfl) (by kernel_rfl) (by kernel_rfl)]
  kernel_rfl
theorem typeOfF (v : Value) (w : World) : Sem.run Tryd.prog (callFunc 53 #[.iface 124 v]) w = .ok (.value (.iface 112 (.agg #[.pointer (some ⟨1, 124, none⟩)]))) w := by
  rw [@run_callFunc_extern Tryd.prog 53 _ Extern.ReflectliteType.typeOf Tryd.func53 (by kernel_rfl) (by kernel_rfl) (by kernel_rfl) (by kernel_rfl)]
  kernel_rfl
theorem assignF (w : World) : Sem.run Tryd.prog (callFunc 79 #[.agg #[.pointer (some ⟨1, 124, none⟩)], .iface 112 (.agg #[.pointer (some ⟨1, 40, none⟩)])]) w = .ok (.value (.bool false)) w := by
  rw [@run_callFunc_extern Tryd.prog 79 _ (ReflectliteType.relation "AssignableTo" ReflectliteType.assignableTo) Tryd.func79 (by kernel_rfl) (by kernel_rfl) (by kernel_rfl) (by kernel_rfl)]
  kernel_rfl
theorem assignC (w : World) : Sem.run Tryd.prog (callFunc 79 #[.agg #[.pointer (some ⟨1, 40, none⟩)], .iface 112 (.agg #[.pointer (some ⟨1, 40, none⟩)])]) w = .ok (.value (.bool true)) w := by
  rw [@run_callFunc_extern Tryd.prog 79 _ (ReflectliteType.relation "AssignableTo" ReflectliteType.assignableTo) Tryd.func79 (by kernel_rfl) (by kernel_rfl) (by kernel_rfl) (by kernel_rfl)]
  kernel_rfl
theorem no_as_f (v : Value) (xT : TypeId) (w : World) : (Instr.typeAssert (.iface 124 v) xT 117 true).run Tryd.prog w = .ok (.tuple #[.nilIface, .bool false]) w := run_typeAssert_lacksB Tryd.underlying117 (by kernel_rfl) (by kernel_rfl) v xT w

end Go.Proofs.YtnikliadfcgjiaaDoor

/- api.Of of a reader's error is its code. -/
namespace Go.Proofs.YtnikliadfcgjiaaDoor
open Go.ChangeShapes Go.WideShapes Go.ChangeAt Go.RowKit Go.Extern.Stop Go.Stop Go.Extern
set_option linter.unusedVariables false

theorem rlm (z : Sem Value) (f : TypeId → Addr → Nat → Nat → Sem Value) (v : Value) :
    ReflectliteValue.method z f #[v] = (do match ← ReflectliteValue.parts v with | none => z | some (t, a, fl) => f t a fl (fl % 32)) := rfl
theorem partsP (a : Addr) (w : World) : (ReflectliteValue.parts (.agg #[.pointer (some ⟨1, 68, none⟩), .pointer (some a), .int .u64 150])).run Tryd.prog w = .ok (some (68, a, 150)) w := by kernel_rfl
theorem isNilP (a p : Addr) (W : World) (ha : W.cell? a = some (.pointer (some p))) :
    Sem.run Tryd.prog (callFunc 43 #[.agg #[.pointer (some ⟨1, 68, none⟩), .pointer (some a), .int .u64 150]]) W = .ok (.value (.bool false)) W := by
  rw [@run_callFunc_extern Tryd.prog 43 _ (ReflectliteValue.method (ReflectliteValue.valueError "reflectlite.Value.IsNil" 0) ReflectliteValue.isNil) Tryd.func43 (by kernel_rfl) (by kernel_rfl) (by kernel_rfl) (by kernel_rfl)]
  rw [rlm]
  simp only [Sem.run_bind, partsP, Result.andThen]
  simp [ReflectliteValue.isNil, loadVar, isAgg, underlying, Tryd.underlying68, ha, Result.andThen]
theorem elemOfP (w : World) : (Rtype.elem? 68).run Tryd.prog w = .ok (some 40) w := by kernel_rfl
theorem mkC (p : Addr) (w : World) : (ReflectliteValue.mk 40 p ReflectliteValue.flagAddr).run Tryd.prog w = .ok (.agg #[.pointer (some ⟨1, 40, none⟩), .pointer (some p), .int .u64 386]) w := by kernel_rfl
theorem elemV (a p : Addr) (W : World) (ha : W.cell? a = some (.pointer (some p))) :
    Sem.run Tryd.prog (callFunc 54 #[.agg #[.pointer (some ⟨1, 68, none⟩), .pointer (some a), .int .u64 150]]) W
      = .ok (.value (.agg #[.pointer (some ⟨1, 40, none⟩), .pointer (some p), .int .u64 386])) W := by
  rw [@run_callFunc_extern Tryd.prog 54 _ (ReflectliteValue.method (ReflectliteValue.valueError "reflectlite.Value.Elem" 0) ReflectliteValue.elem) Tryd.func54 (by kernel_rfl) (by kernel_rfl) (by kernel_rfl) (by kernel_rfl)]
  rw [rlm]
  simp only [Sem.run_bind, partsP, Result.andThen]
  simp [ReflectliteValue.elem, loadVar, isAgg, underlying, Tryd.underlying68, ha, Result.andThen, elemOfP, mkC]
theorem rls (v x : Value) : ReflectliteValue.set #[v, x] = (do
    let (some (dst, a, fl), some (src, b, _)) := (← ReflectliteValue.parts v, ← ReflectliteValue.parts x)
      | unsupported (.noEntry "extern/(internal/reflectlite.Value).Set.zeroValue")
    if fl / ReflectliteValue.flagAddr % 2 == 0 then unsupported (.noEntry "extern/(internal/reflectlite.Value).Set.unaddressable")
    let val ← loadVar src b
    if ← Rtype.directlyAssignable dst src then storeVar dst a val
    else if ← Rtype.implements dst src then
      if (← Rtype.kind src) == 20 then
        match val with
        | .nilIface => unsupported (.noEntry "extern/reflectlite: a nil value of one interface type handed on as a value of another")
        | _ => storeVar dst a val
      else storeVar dst a (.iface src val)
    else panicString ("reflectlite.Set: value of type " ++ (← Rtype.spelt src) ++ " is not assignable to type " ++ (← Rtype.spelt dst))
    pure (.tuple #[])) := rfl
theorem partsCa (a : Addr) (w : World) : (ReflectliteValue.parts (.agg #[.pointer (some ⟨1, 40, none⟩), .pointer (some a), .int .u64 386])).run Tryd.prog w = .ok (some (40, a, 386)) w := by kernel_rfl
theorem partsC (a : Addr) (w : World) : (ReflectliteValue.parts (.agg #[.pointer (some ⟨1, 40, none⟩), .pointer (some a), .int .u64 130])).run Tryd.prog w = .ok (some (40, a, 130)) w := by kernel_rfl
theorem directC (w : World) : (Rtype.directlyAssignable 40 40).run Tryd.prog w = .ok true w := by kernel_rfl
theorem setC (ta b : Addr) (c : Int) (old : Value) (W : World) (hb : W.cell? b = some (.int .i64 c)) (ht : W.cell? ta = some old) (hf : W.frozen? ta = false) :
    Sem.run Tryd.prog (callFunc 55 #[.agg #[.pointer (some ⟨1, 40, none⟩), .pointer (some ta), .int .u64 386], .agg #[.pointer (some ⟨1, 40, none⟩), .pointer (some b), .int .u64 130]]) W
      = .ok (.value (.tuple #[])) (W.setCell ta (.int .i64 c)) := by
  rw [@run_callFunc_extern Tryd.prog 55 _ ReflectliteValue.set Tryd.func55 (by kernel_rfl) (by kernel_rfl) (by kernel_rfl) (by kernel_rfl)]
  rw [rls]
  simp only [Sem.run_bind, partsCa, partsC, Result.andThen]
  simp [ReflectliteValue.flagAddr, loadVar, isAgg, underlying, Tryd.underlying40, hb, Result.andThen, directC, storeVar, Value.cells, storeCells, Addr.add]
  rw [run_store Tryd.prog W ta _ _ (by rfl)]
  simp [ht, hf]

/-- errors.errorType holds error's type. -/
def ErrType (w : World) : Prop := w.cell? ⟨0, 0, none⟩ = some (.iface 112 (.agg #[.pointer (some ⟨1, 30, none⟩)]))

theorem ErrType.lt {w : World} (h : ErrType w) : 0 < w.heap.size := by
  rcases Nat.eq_zero_or_pos w.heap.size with h0 | h1
  · unfold ErrType at h; simp [World.cell?, h0] at h
  · exact h1
theorem ErrType.below {w w' : World} {B : Nat} (h : ErrType w) (hB : 0 < B) (hb : Below B w w') : ErrType w' := by
  unfold ErrType at *
  rw [← h]; exact World.cell?_of_block (hb.block 0 hB)

set_option maxHeartbeats 4000000 in
theorem as_fault (g tb c : Nat) (old : Value) (w : World) (hg : ErrType w) (ht0 : w.cell? ⟨tb, 0, none⟩ = some old) (hf0 : w.frozen? ⟨tb, 0, none⟩ = false) (hc : w.cell? ⟨g, 2, none⟩ = some (.iface 40 (.int .i64 c))) :
    Calls Tryd.prog 24 #[.iface 124 (.pointer (some ⟨g, 0, none⟩)), .iface 68 (.pointer (some ⟨tb, 0, none⟩))] w fun ev w' => ev = .returned (.bool true) ∧
      w' = ((((w.alloc (.cells #[.pointer (some ⟨tb, 0, none⟩)] 68)).alloc (.cells #[.pointer (some ⟨1, 68, none⟩), .pointer (some ⟨w.heap.size, 0, none⟩), .int .u64 150] 93)).alloc (.cells #[.pointer (some ⟨1, 68, none⟩), .pointer (some ⟨w.heap.size, 0, none⟩), .int .u64 150] 93)).alloc (.cells #[.int .i64 c] 40)).setCell ⟨tb, 0, none⟩ (.int .i64 c) := by
  have hlt := hg.lt
  have hg0 : w.cell? ⟨0, 0, none⟩ = some (.iface 112 (.agg #[.pointer (some ⟨1, 30, none⟩)])) := hg
  clear hg
  have h1 := valueOfP
  have h2 := valueOfC
  have h3 := typeOfV
  have h4 := m_kind
  have h5 := kindP
  have h6 := kindC
  have h7 := m_elem
  have h8 := m_impl
  have h9 := m_assign
  have h10 := elemT
  have h11 := implT
  have h12 := typeOfF
  have h13 := assignF
  have h14 := assignC
  have h15 := no_as_f
  have h16 := has_unwrap
  have h17 := unwrap_method
  have h18 := type_call
  have htl : tb < w.heap.size := by
    rcases Nat.lt_or_ge tb w.heap.size with h | h
    · exact h
    · simp [World.cell?, Array.getElem?_eq_none h] at ht0
  have hgl : g < w.heap.size := by
    rcases Nat.lt_or_ge g w.heap.size with h | h
    · exact h
    · simp [World.cell?, Array.getElem?_eq_none h] at hc
  obtain ⟨A, hA⟩ : ∃ A, A = Obj.cells #[.pointer (some ⟨tb, 0, none⟩)] 68 := ⟨_, rfl⟩
  obtain ⟨V, hV⟩ : ∃ V, V = Obj.cells #[.pointer (some ⟨1, 68, none⟩), .pointer (some ⟨w.heap.size, 0, none⟩), .int .u64 150] 93 := ⟨_, rfl⟩
  obtain ⟨D, hD⟩ : ∃ D, D = Obj.cells #[.int .i64 c] 40 := ⟨_, rfl⟩
  have n8 := isNilP ⟨w.heap.size, 0, none⟩ ⟨tb, 0, none⟩ ((w.alloc A).alloc V) (by rw [World.cell?_alloc_lt _ _ ⟨w.heap.size, 0, none⟩ (by simp), hA]; simp)
  have hg2 : ((w.alloc A).alloc V).cell? ⟨0, 0, none⟩ = some (.iface 112 (.agg #[.pointer (some ⟨1, 30, none⟩)])) := by
    rw [World.cell?_alloc_lt _ _ ⟨0, 0, none⟩ (by simp), World.cell?_alloc_lt _ _ ⟨0, 0, none⟩ hlt]; exact hg0
  have hc3 : (((w.alloc A).alloc V).alloc V).cell? ⟨g, 2, none⟩ = some (.iface 40 (.int .i64 c)) := by
    rw [World.cell?_alloc_lt _ _ ⟨g, 2, none⟩ (by simp; omega), World.cell?_alloc_lt _ _ ⟨g, 2, none⟩ (by simp; omega), World.cell?_alloc_lt _ _ ⟨g, 2, none⟩ hgl]; exact hc
  have el := elemV ⟨w.heap.size, 0, none⟩ ⟨tb, 0, none⟩ (((w.alloc A).alloc V).alloc V) (by rw [World.cell?_alloc_lt _ _ ⟨w.heap.size, 0, none⟩ (by simp; omega), World.cell?_alloc_lt _ _ ⟨w.heap.size, 0, none⟩ (by simp), hA]; simp)
  have st := setC ⟨tb, 0, none⟩ ⟨w.heap.size + 1 + 1 + 1, 0, none⟩ c old ((((w.alloc A).alloc V).alloc V).alloc D)
    (by rw [hD, World.cell?_alloc_at _ _ _ _ (by simp)]; rfl)
    (by rw [World.cell?_alloc_lt _ _ ⟨tb, 0, none⟩ (by simp; omega), World.cell?_alloc_lt _ _ ⟨tb, 0, none⟩ (by simp; omega), World.cell?_alloc_lt _ _ ⟨tb, 0, none⟩ (by simp; omega), World.cell?_alloc_lt _ _ ⟨tb, 0, none⟩ htl]; exact ht0)
    (by rw [World.frozen?_alloc_old _ _ ⟨tb, 0, none⟩ (by simp; omega), World.frozen?_alloc_old _ _ ⟨tb, 0, none⟩ (by simp; omega), World.frozen?_alloc_old _ _ ⟨tb, 0, none⟩ (by simp; omega), World.frozen?_alloc_old _ _ ⟨tb, 0, none⟩ (Nat.ne_of_lt htl)]; exact hf0)
  subst hA hV hD
  clear hgl hg0 hc
  go_enter Tryd.func24, Tryd.ntmps24
  go_wp2
  refine wp_loop_rounds 2 ?_
  rw [rounds_succ]
  go_wp2
  rw [rounds_succ]
  go_wp2
  go_ret
  exact ⟨rfl, rfl⟩

end Go.Proofs.YtnikliadfcgjiaaDoor

/- api.Of of a reader's error is its code. -/
namespace Go.Proofs.YtnikliadfcgjiaaDoor
open Go.ChangeShapes Go.WideShapes Go.ChangeAt Go.RowKit Go.Extern.Stop Go.Stop Go.Extern
set_option linter.unusedVariables false

theorem of_nil (w : World) : Calls Tryd.prog 10 #[.nilIface] w fun e w' => e = .returned (.int .i64 0) ∧ w' = w := by
  go_enter Tryd.func10, Tryd.ntmps10
  go_wp2
  go_ret
  exact ⟨rfl, rfl⟩

theorem of_fault (g c : Nat) (w : World) (hg : ErrType w) (hF : IsFault w (.iface 124 (.pointer (some ⟨g, 0, none⟩))) c) :
    Calls Tryd.prog 10 #[.iface 124 (.pointer (some ⟨g, 0, none⟩))] w fun e w' => e = .returned (.int .i64 c) ∧ Below w.heap.size w w' := by
  have hlt := hg.lt
  obtain ⟨g', at7, hv, hF'⟩ := hF
  have hgg : g' = g := by simpa using hv.symm
  subst hgg
  have hgl := lt_of_block hF'
  have hg1 : ErrType (w.alloc (.cells #[.int .i64 0] 40)) := hg.below hlt ((Below.refl _ _).alloc (Nat.le_of_lt (Nat.lt_of_lt_of_le Nat.zero_lt_one hlt)) _ |>.mono (Nat.le_refl _) |> fun h => ⟨h.os, h.tape, h.output, h.size, fun k hk => Below.heap_alloc w _ k hk⟩)
  have hc1 : (w.alloc (.cells #[.int .i64 0] 40)).cell? ⟨g', 2, none⟩ = some (.iface 40 (.int .i64 c)) := by
    rw [World.cell?_alloc_lt _ _ ⟨g', 2, none⟩ hgl]; simp [World.cell?, hF']
  clear hF' hv
  go_enter Tryd.func10, Tryd.ntmps10
  go_wp2_with fail
  refine (as_fault g' w.heap.size c (.int .i64 0) _ hg1 (by simp) (by simp) hc1).mono ?_
  rintro e w' ⟨rfl, hw'⟩
  have hb : Below w.heap.size w w' := by
    rw [hw']
    refine Below.setCell (((((Below.refl _ _).alloc (Nat.le_refl _) _).alloc (by simp) _).alloc (by simp; omega) _).alloc (by simp; omega) _ |>.alloc (by simp; omega) _) (Nat.le_refl _) _
  have hcell : w'.cell? ⟨w.heap.size, 0, none⟩ = some (.int .i64 c) := by
    rw [hw']
    refine World.cell?_setCell_same' _ _ _ ?_
    rw [World.cell?_alloc_lt _ _ ⟨w.heap.size, 0, none⟩ (by simp; omega), World.cell?_alloc_lt _ _ ⟨w.heap.size, 0, none⟩ (by simp; omega), World.cell?_alloc_lt _ _ ⟨w.heap.size, 0, none⟩ (by simp; omega), World.cell?_alloc_lt _ _ ⟨w.heap.size, 0, none⟩ (by simp)]
    simp
  clear hw'
  go_wp2
  go_ret
  exact ⟨rfl, hb⟩

end Go.Proofs.YtnikliadfcgjiaaDoor

/- api.Of of a bare code is the code. -/
namespace Go.Proofs.YtnikliadfcgjiaaDoor
open Go.ChangeShapes Go.WideShapes Go.ChangeAt Go.RowKit Go.Extern.Stop Go.Stop Go.Extern
set_option linter.unusedVariables false

theorem typeOfC4 (v : Value) (w : World) : Sem.run Tryd.prog (callFunc 53 #[.iface 40 v]) w = .ok (.value (.iface 112 (.agg #[.pointer (some ⟨1, 40, none⟩)]))) w := by
  rw [@run_callFunc_extern Tryd.prog 53 _ Extern.ReflectliteType.typeOf Tryd.func53 (by kernel_rfl) (by kernel_rfl) (by kernel_rfl) (by kernel_rfl)]
  kernel_rfl

set_option maxHeartbeats 4000000 in
theorem as_code (tb : Nat) (c : Int) (old : Value) (w : World) (hg : ErrType w) (ht0 : w.cell? ⟨tb, 0, none⟩ = some old) (hf0 : w.frozen? ⟨tb, 0, none⟩ = false) :
    Calls Tryd.prog 24 #[.iface 40 (.int .i64 c), .iface 68 (.pointer (some ⟨tb, 0, none⟩))] w fun ev w' => ev = .returned (.bool true) ∧
      w' = ((((w.alloc (.cells #[.pointer (some ⟨tb, 0, none⟩)] 68)).alloc (.cells #[.pointer (some ⟨1, 68, none⟩), .pointer (some ⟨w.heap.size, 0, none⟩), .int .u64 150] 93)).alloc (.cells #[.pointer (some ⟨1, 68, none⟩), .pointer (some ⟨w.heap.size, 0, none⟩), .int .u64 150] 93)).alloc (.cells #[.int .i64 c] 40)).setCell ⟨tb, 0, none⟩ (.int .i64 c) := by
  have hlt := hg.lt
  have hg0 : w.cell? ⟨0, 0, none⟩ = some (.iface 112 (.agg #[.pointer (some ⟨1, 30, none⟩)])) := hg
  clear hg
  have h1 := valueOfP
  have h2 := valueOfC
  have h3 := typeOfV
  have h4 := m_kind
  have h5 := kindP
  have h6 := kindC
  have h7 := m_elem
  have h8 := m_impl
  have h9 := m_assign
  have h10 := elemT
  have h11 := implT
  have h14 := assignC
  have h18 := typeOfC4
  have htl : tb < w.heap.size := by
    rcases Nat.lt_or_ge tb w.heap.size with h | h
    · exact h
    · simp [World.cell?, Array.getElem?_eq_none h] at ht0
  obtain ⟨A, hA⟩ : ∃ A, A = Obj.cells #[.pointer (some ⟨tb, 0, none⟩)] 68 := ⟨_, rfl⟩
  obtain ⟨V, hV⟩ : ∃ V, V = Obj.cells #[.pointer (some ⟨1, 68, none⟩), .pointer (some ⟨w.heap.size, 0, none⟩), .int .u64 150] 93 := ⟨_, rfl⟩
  obtain ⟨D, hD⟩ : ∃ D, D = Obj.cells #[.int .i64 c] 40 := ⟨_, rfl⟩
  have n8 := isNilP ⟨w.heap.size, 0, none⟩ ⟨tb, 0, none⟩ ((w.alloc A).alloc V) (by rw [World.cell?_alloc_lt _ _ ⟨w.heap.size, 0, none⟩ (by simp), hA]; simp)
  have hg2 : ((w.alloc A).alloc V).cell? ⟨0, 0, none⟩ = some (.iface 112 (.agg #[.pointer (some ⟨1, 30, none⟩)])) := by
    rw [World.cell?_alloc_lt _ _ ⟨0, 0, none⟩ (by simp), World.cell?_alloc_lt _ _ ⟨0, 0, none⟩ hlt]; exact hg0
  have el := elemV ⟨w.heap.size, 0, none⟩ ⟨tb, 0, none⟩ (((w.alloc A).alloc V).alloc V) (by rw [World.cell?_alloc_lt _ _ ⟨w.heap.size, 0, none⟩ (by simp; omega), World.cell?_alloc_lt _ _ ⟨w.heap.size, 0, none⟩ (by simp), hA]; simp)
  have st := setC ⟨tb, 0, none⟩ ⟨w.heap.size + 1 + 1 + 1, 0, none⟩ c old ((((w.alloc A).alloc V).alloc V).alloc D)
    (by rw [hD, World.cell?_alloc_at _ _ _ _ (by simp)]; rfl)
    (by rw [World.cell?_alloc_lt _ _ ⟨tb, 0, none⟩ (by simp; omega), World.cell?_alloc_lt _ _ ⟨tb, 0, none⟩ (by simp; omega), World.cell?_alloc_lt _ _ ⟨tb, 0, none⟩ (by simp; omega), World.cell?_alloc_lt _ _ ⟨tb, 0, none⟩ htl]; exact ht0)
    (by rw [World.frozen?_alloc_old _ _ ⟨tb, 0, none⟩ (by simp; omega), World.frozen?_alloc_old _ _ ⟨tb, 0, none⟩ (by simp; omega), World.frozen?_alloc_old _ _ ⟨tb, 0, none⟩ (by simp; omega), World.frozen?_alloc_old _ _ ⟨tb, 0, none⟩ (Nat.ne_of_lt htl)]; exact hf0)
  subst hA hV hD
  clear hg0
  go_enter Tryd.func24, Tryd.ntmps24
  go_wp2
  refine wp_loop_rounds 1 ?_
  rw [rounds_succ]
  go_wp2
  go_ret
  exact ⟨rfl, rfl⟩

theorem of_code (c : Int) (w : World) (hg : ErrType w) :
    Calls Tryd.prog 10 #[.iface 40 (.int .i64 c)] w fun e w' => e = .returned (.int .i64 c) ∧ Below w.heap.size w w' := by
  have hlt := hg.lt
  have hg1 : ErrType (w.alloc (.cells #[.int .i64 0] 40)) := hg.below hlt ((Below.refl _ _).alloc (Nat.le_refl _) _)
  go_enter Tryd.func10, Tryd.ntmps10
  go_wp2_with fail
  refine (as_code w.heap.size c (.int .i64 0) _ hg1 (by simp) (by simp)).mono ?_
  rintro e w' ⟨rfl, hw'⟩
  have hb : Below w.heap.size w w' := by
    rw [hw']
    refine Below.setCell (((((Below.refl _ _).alloc (Nat.le_refl _) _).alloc (by simp) _).alloc (by simp; omega) _).alloc (by simp; omega) _ |>.alloc (by simp; omega) _) (Nat.le_refl _) _
  have hcell : w'.cell? ⟨w.heap.size, 0, none⟩ = some (.int .i64 c) := by
    rw [hw']
    refine World.cell?_setCell_same' _ _ _ ?_
    rw [World.cell?_alloc_lt _ _ ⟨w.heap.size, 0, none⟩ (by simp; omega), World.cell?_alloc_lt _ _ ⟨w.heap.size, 0, none⟩ (by simp; omega), World.cell?_alloc_lt _ _ ⟨w.heap.size, 0, none⟩ (by simp; omega), World.cell?_alloc_lt _ _ ⟨w.heap.size, 0, none⟩ (by simp)]
    simp
  clear hw'
  go_wp2
  go_ret
  exact ⟨rfl, hb⟩
end Go.Proofs.YtnikliadfcgjiaaDoor

/- The document's Bytes; api.Of of a code. -/
namespace Go.Proofs.YtnikliadfcgjiaaDoor
open Go.ChangeShapes Go.WideShapes Go.ChangeAt Go.RowKit
set_option linter.unusedVariables false

theorem of_cd (c : Nat) (w : World) (hE : ErrType w) : Calls Tryd.prog 10 #[cdV c] w fun e w' => e = .returned (.int .i64 (c : Int)) ∧ Below w.heap.size w w' := by
  by_cases hc : c = 0
  · subst hc
    rw [cdV0]
    refine (of_nil w).mono ?_
    rintro e w' ⟨rfl, hw'⟩
    subst w'
    exact ⟨rfl, Below.refl _ _⟩
  · rw [cdV_ne _ hc]; exact of_code c w hE

set_option maxRecDepth 100000 in
set_option maxHeartbeats 4000000 in
theorem rmbytes_any (m : Mg) (fa : Option Addr) (fc : Nat) (va : Option Addr) (vc : Nat) (w : World) (hf : InRow 1 encS okS ByteArray.empty w fa m.fl.length m.fl) (hv : InRow 2 Vl.cells Vl.ok vl0 w va m.vl.length m.vl)
    (hg : m.group.size ≤ 9223372036854775807) (hl : (m.fl.flatMap txtB).length + (m.vl.flatMap vlB).length + (txtB m.pay).length ≤ 700000) :
    Calls Tryd.prog 7 #[m.val fa fc va vc] w fun e w' => e = .returned (.tuple #[.string (byR m).1, .int .i64 ((byR m).2 : Int)]) ∧ Below w.heap.size w w' := by
  obtain ⟨W1, hW1⟩ : ∃ W1, W1 = w.alloc (.cells #[.int .i64 m.kind, .string m.group, .bool m.any, .slice fa m.fl.length fc, .int .i64 m.pub, .int .i64 m.seq, .int .i64 m.hops, .slice va m.vl.length vc, .string m.pay] 37) := ⟨_, rfl⟩
  have b0 : Below w.heap.size w W1 := by rw [hW1]; exact below1 _ _
  have pB : W1.heap[w.heap.size]? = some (.cells #[.int .i64 m.kind, .string m.group, .bool m.any, .slice fa m.fl.length fc, .int .i64 m.pub, .int .i64 m.seq, .int .i64 m.hops, .slice va m.vl.length vc, .string m.pay] 37 (0, 0)) := by rw [hW1]; exact heap_alloc_new w _
  have xl := lt_of_block pB
  have hck := rcheck_any m fa fc va vc W1 hg (by have := txt_len m.pay; omega) hv.2.1 hf.2.1
  obtain ⟨x0, x1, x2, x3, x4, x5, x6, x7, x8⟩ := cells9 pB
  by_cases hc : chk m = 0
  · have HT : Hid (byR m = if 1970 < (mB m).length then (ByteArray.empty, 4) else (bs (mB m), 0)) := (by unfold byR; rw [if_pos hc]; rfl : byR m = _)
    have ctx : ∀ W, Below W1.heap.size W1 W → _ := fun W hW => rmtext_any m fa fc va vc W ((hf.below (Nat.le_refl _) b0).below (Nat.le_refl _) hW) ((hv.below (Nat.le_refl _) b0).below (Nat.le_refl _) hW) hc hl
    have hz := bs_size (mB m)
    generalize bs (mB m) = D at ctx HT hz
    have hcase : (1970 < (mB m).length ∧ (1970 : Int) < (D.size : Int)) ∨ (¬ 1970 < (mB m).length ∧ ¬ (1970 : Int) < (D.size : Int)) := by omega
    rw [hc] at hck
    unfold Mg.val at hck ctx ⊢
    clear hc hz hf hv
    go_enter Tryd.func7, Tryd.ntmps7
    go_upto_region 1 with fail
    rw [← hW1]
    clear hW1
    go_wp2_with fail
    refine hck.mono ?_
    rintro e w2 ⟨rfl, hb2⟩
    have p2 := (hb2.block _ xl).trans pB
    obtain ⟨y0, y1, y2, y3, y4, y5, y6, y7, y8⟩ := cells9 p2
    have yl := lt_of_block p2
    go_wp2_with fail
    refine (ctx _ hb2).mono ?_
    rintro e w3 ⟨rfl, hb3⟩
    have b3 := b0.trans ((hb2.mono b0.size).trans (hb3.mono (Nat.le_trans b0.size hb2.size)))
    rcases hcase with ⟨h1, h2⟩ | ⟨h1, h2⟩
    · rw [if_pos h1] at HT
      go_wp2
      go_ret2
      exact ⟨by rw [HT.out]; rfl, b3⟩
    · rw [if_neg h1] at HT
      go_wp2
      go_ret2
      exact ⟨by rw [HT.out]; rfl, b3⟩
  · have HT : Hid (byR m = (ByteArray.empty, chk m)) := (by unfold byR; rw [if_neg hc] : byR m = _)
    have hne := bne_t (show ¬ (chk m : Int) = 0 by omega)
    generalize chk m = c at *
    unfold Mg.val at hck ⊢
    clear hf hv
    go_enter Tryd.func7, Tryd.ntmps7
    go_upto_region 1 with fail
    rw [← hW1]
    clear hW1
    go_wp2_with fail
    refine hck.mono ?_
    rintro e w2 ⟨rfl, hb2⟩
    go_wp2
    go_ret2
    exact ⟨by rw [HT.out]; rfl, b0.trans (hb2.mono b0.size)⟩
end Go.Proofs.YtnikliadfcgjiaaDoor
