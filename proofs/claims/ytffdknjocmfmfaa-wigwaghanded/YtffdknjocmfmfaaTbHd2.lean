/- Wishes that are handed on: the tables, the window and a row of places that is gone through. -/
import Derived.Test.YtffdknjocmfmfaaTbHd
namespace Go.Proofs.Ytffdknjocmfmfaa
open Go.ChangeShapes Go.WideShapes Go.ChangeAt Go.RowKit
set_option linter.unusedVariables false

theorem IdS.app2 {w wr w2 : World} {v v' : Value} {L N : List Int} {k : Nat} {xs : List Value} (h : IdS w wr v L) (hk : k = (L ++ N).length) (hx : xs = (L ++ N).map (Value.int .u64))
    (ha : Appended w.heap.size 24 wr w2 v v' k xs) : IdS w w2 v' (L ++ N) := by
  have hg := ha.grown
  subst hk hx
  exact ⟨ha.row, h.bel.trans ⟨hg.os, hg.tape, hg.output, hg.size, fun k hk => hg.block k (Nat.lt_of_lt_of_le hk h.bel.size) (fun e => by have := (h.row.lt k e.symm).1; omega)⟩⟩
/-- The tables and the window, and beside them a row of places (v). -/
structure HdR (B : Nat) (w0 w : World) (X : Nat → List Ep) (L : List (Int × Int)) (v : Value) (C : List Int) (T : Nat → Prop) : Prop where
  hd : HdS B w0 w X L (fun k => v.ownBlock = some k ∨ T k)
  row : ∃ A, w.ownsRow A 24 1 v C.length (C.map (Value.int .u64))
theorem HdR.below {B : Nat} {w0 w w' : World} {X : Nat → List Ep} {L : List (Int × Int)} {v : Value} {C : List Int} {T : Nat → Prop} (h : HdR B w0 w X L v C T) (hb : Below w.heap.size w w') : HdR B w0 w' X L v C T := by
  obtain ⟨A, hr⟩ := h.row
  exact ⟨h.hd.below hb, A, row_atJ hr (fun k hk => hb.block k (hr.lt k hk).2)⟩
theorem HdR.sub {B : Nat} {w0 w : World} {X : Nat → List Ep} {L : List (Int × Int)} {v : Value} {C : List Int} {T : Nat → Prop} (h : HdR B w0 w X L v C T) : HdR B w0 w X L v C (fun _ => False) :=
  ⟨h.hd.sub (fun k hk => hk.imp id False.elim), h.row⟩
theorem HdR.at {B : Nat} {w0 w : World} {X : Nat → List Ep} {L : List (Int × Int)} {a : Option Addr} {n c : Nat} {C : List Int} {T : Nat → Prop} (h : HdR B w0 w X L (.slice a n c) C T) {i : Nat} (hi : i < C.length) : ∃ g, a = some ⟨g, 0, none⟩ ∧ g < w.heap.size ∧ w.cell? ⟨g, i, none⟩ = some (.int .u64 (C.getD i 0)) := by
  obtain ⟨A, hr⟩ := h.row
  rcases hr.2 with ⟨_, h0⟩ | ⟨g, cap, cur, hv, _, hg, _⟩
  · omega
  · have hc := hr.cells (g := g) (by rw [hv]; rfl)
    simp only [Value.slice.injEq] at hv
    refine ⟨g, hv.1, lt_blk hg, ?_⟩
    have e := hc i (.int .u64 (C.getD i 0)) (by rw [List.getElem?_map, List.getElem?_eq_getElem hi]; simp [List.getD, hi])
    rw [Addr.add_lit] at e
    simpa using e
theorem HdR.come {B : Nat} {w0 w : World} {X : Nat → List Ep} {L : List (Int × Int)} {v : Value} {C : List Int} {T : Nat → Prop} (h : HdR B w0 w X L v C T) (r : Nat) (hr : r = B + 3) (p n : Int) (hn : EvOk p n) :
    Calls Try.prog 12 #[.pointer (some ⟨r, 0, none⟩), .int .i64 p, .int .i64 n] w fun e w' => e = .returned (.tuple #[.int .i64 (whatL L p n), .nilIface]) ∧ HdR B w0 w' X (comeL L p n) v C T := by
  obtain ⟨A, hrow⟩ := h.row
  refine (h.hd.come r hr p n hn).mono ?_
  rintro e w' ⟨rfl, h', hF⟩
  exact ⟨rfl, h', A, row_atJ hrow (fun k hk => hF.block k (.inl hk))⟩
theorem HdR.move {B : Nat} {w0 w : World} {X : Nat → List Ep} {L : List (Int × Int)} {v : Value} {C : List Int} (h : HdR B w0 w X L v C (fun _ => False)) (i : Nat) (hi : i < 3) (r : Nat) (hr : r = B + i) (a b : Int) (hx : ∀ x ∈ X i, x.gr.size ≤ 200) :
    Calls Try.prog 8 #[.pointer (some ⟨r, 0, none⟩), .int .u64 a, .int .u64 b] w fun e w' => ∃ a' c, e = .returned (.slice a' ((X i).filter (goesB a b)).length c) ∧
      HdR B w0 w' (upd X i ((X i).filter (fun x => !goesB a b x))) L v C (rdE (.slice a' ((X i).filter (goesB a b)).length c) ((X i).filter (goesB a b))) ∧ EntIn w' a' ((X i).filter (goesB a b)).length ((X i).filter (goesB a b)) := by
  obtain ⟨A, hrow⟩ := h.row
  refine (h.hd.move i hi r hr a b hx).mono ?_
  rintro e w' ⟨a', c, rfl, h', hE, hF⟩
  exact ⟨a', c, rfl, ⟨h'.sub (fun k hk => hk.elim (fun q => .inl (.inl q)) .inr), A, row_atJ hrow (fun k hk => hF.block k (.inl hk))⟩, hE⟩
/-- What is in the hand is put, one by one. -/
structure HdP (B : Nat) (w0 w : World) (X : Nat → List Ep) (L : List (Int × Int)) (v : Value) (C : List Int) (a : Option Addr) (n c : Nat) (M : List Ep) (j : Nat) : Prop where
  hr : HdR B w0 w X L v C (rdE (.slice a n c) M)
  ent : EntIn w a n M
  m : Hd2 (X 0) (M.drop j) (X 1) (X 2)
theorem HdP.below {B : Nat} {w0 w w' : World} {X : Nat → List Ep} {L : List (Int × Int)} {v : Value} {C : List Int} {a : Option Addr} {n c : Nat} {M : List Ep} {j : Nat} (h : HdP B w0 w X L v C a n c M j) (hb : Below w.heap.size w w') : HdP B w0 w' X L v C a n c M j :=
  ⟨h.hr.below hb, h.ent.below hb, h.m⟩
theorem HdP.start {B : Nat} {w0 w w1 : World} {X : Nat → List Ep} {L : List (Int × Int)} {v : Value} {C : List Int} {a : Option Addr} {c : Nat} {p : Ep → Bool} (h1 : HdR B w0 w X L v C (fun _ => False)) (hm : Hd2 (X 0) [] (X 1) (X 2))
    (h : HdR B w0 w1 (upd X 0 ((X 0).filter (fun x => !p x))) L v C (rdE (.slice a ((X 0).filter p).length c) ((X 0).filter p))) (he : EntIn w1 a ((X 0).filter p).length ((X 0).filter p)) :
    HdP B w0 w1 (upd X 0 ((X 0).filter (fun x => !p x))) L v C a ((X 0).filter p).length c ((X 0).filter p) 0 := by
  refine ⟨h, he, ?_⟩
  rw [upd_same, upd_other _ _ (by omega), upd_other _ _ (by omega), List.drop_zero]
  exact hm.move (h1.hd.asc (by omega)) p
theorem HdP.put0 {B : Nat} {w0 w : World} {X : Nat → List Ep} {L : List (Int × Int)} {v : Value} {C : List Int} {a : Option Addr} {n c : Nat} {M : List Ep} {j : Nat} (h : HdP B w0 w X L v C a n c M j) (hj : j < n) (r : Nat) (hr : r = B + 1)
    (gr : ByteArray) (ch : Int) (fa : Option Addr) (fl fc : Nat) (any : Bool) (till : Int) (fs : List ByteArray) (hx : (⟨gr, ch, fa, fl, fc, any, till, fs⟩ : Ep) = M.getD j ep0) (hf : StrIn w fa fl fs) (hfl : fl ≤ 100000) :
    Calls Try.prog 5 #[.pointer (some ⟨r, 0, none⟩), .agg #[.string gr, .int .i64 ch, .slice fa fl fc, .bool any, .int .i64 till]] w fun e w' =>
      e = .returned .nilIface ∧ ∃ X', HdP B w0 w' X' L v C a n c M (j + 1) ∧ X' 0 = X 0 := by
  obtain ⟨A, hrow⟩ := h.hr.row
  have hjM : j < M.length := by rw [h.ent.1]; exact hj
  have hdrop : M.drop j = M.getD j ep0 :: M.drop (j + 1) := by rw [List.drop_eq_getElem_cons hjM]; simp [List.getD, hjM]
  have hm := h.m
  rw [hdrop, ← hx] at hm
  refine (h.hr.hd.put 1 (by omega) r hr gr ch fa fl fc any till fs hf hfl (by have := hm.len; omega)).mono ?_
  rintro e w' ⟨rfl, x', hx', h', hF⟩
  refine ⟨rfl, _, ⟨⟨h', A, row_atJ hrow (fun k hk => hF.block k (.inl hk))⟩, h.ent.frm (c := c) hF (fun k hk => .inr hk), ?_⟩, upd_other _ _ (by omega)⟩
  rw [upd_same, upd_other _ _ (by omega), upd_other _ _ (by omega)]
  exact hm.put (h.hr.hd.asc (by omega)) hx'.1 hx'.2
theorem HdP.put {B : Nat} {w0 w : World} {X : Nat → List Ep} {L : List (Int × Int)} {v : Value} {C : List Int} {a : Option Addr} {n c : Nat} {M : List Ep} {j : Nat} (h : HdP B w0 w X L v C a n c M j) (hj : j < n) (r : Nat) (hr : r = B + 1)
    (gr : ByteArray) (ch : Int) (fa : Option Addr) (fl fc : Nat) (any : Bool) (till : Int) (fs : List ByteArray) (hx : (⟨gr, ch, fa, fl, fc, any, till, fs⟩ : Ep) = M.getD j ep0) (hf : StrIn w fa fl fs) (hfl : fl ≤ 100000) :
    Calls Try.prog 5 #[.pointer (some ⟨r, 0, none⟩), .agg #[.string gr, .int .i64 ch, .slice fa fl fc, .bool any, .int .i64 till]] w fun e w' =>
      e = .returned .nilIface ∧ ∃ X', HdP B w0 w' X' L v C a n c M (j + 1) := by
  refine (h.put0 hj r hr gr ch fa fl fc any till fs hx hf hfl).mono ?_
  rintro e w' ⟨rfl, X', h', _⟩
  exact ⟨rfl, X', h'⟩
theorem HdP.fin {B : Nat} {w0 w : World} {X : Nat → List Ep} {L : List (Int × Int)} {v : Value} {C : List Int} {a : Option Addr} {n c : Nat} {M : List Ep} (h : HdP B w0 w X L v C a n c M n) : HdR B w0 w X L v C (fun _ => False) ∧ Hd2 (X 0) [] (X 1) (X 2) := by
  have e : M.drop n = [] := List.drop_of_length_le (by rw [h.ent.1]; exact Nat.le_refl _)
  have hm := h.m
  rw [e] at hm
  exact ⟨h.hr.sub, hm⟩
theorem goes_all (x : Ep) : goesB 0 0 x = true := by simp [goesB, inB]
theorem move_all (X : List Ep) : X.filter (goesB 0 0) = X ∧ X.filter (fun x => !goesB 0 0 x) = [] := by
  refine ⟨List.filter_eq_self.2 (fun x _ => goes_all x), List.filter_eq_nil_iff.2 (fun x _ => by simp [goes_all])⟩
theorem joinR_len (W : List (Bool × List ByteArray)) : (joinR W).2.length ≤ 16 := by
  cases hj : joinE [] W with
  | none => simp [joinR, hj]
  | some acc =>
    obtain ⟨_, _, hlen, _⟩ := joinE_some List.Pairwise.nil (by simp) hj
    simp only [joinR, hj]; exact hlen
/-- At last: the table of all and the other one have the same. -/
structure HdE (B : Nat) (w0 w : World) (X : Nat → List Ep) (L : List (Int × Int)) (pa : Option Addr) (N : List ByteArray) : Prop where
  hd : HdS B w0 w X L (fun _ => False)
  p : StrIn w pa N.length N
  same : (X 1).map Ep.kw = (X 2).map Ep.kw
theorem HdE.below {B : Nat} {w0 w w' : World} {X : Nat → List Ep} {L : List (Int × Int)} {pa : Option Addr} {N : List ByteArray} (h : HdE B w0 w X L pa N) (hb : Below w.heap.size w w') : HdE B w0 w' X L pa N :=
  ⟨h.hd.below hb, h.p.below (Nat.le_refl _) hb, h.same⟩
/-- What is wanted of a group, by either of the two. -/
theorem HdE.join {B : Nat} {w0 w : World} {X : Nat → List Ep} {L : List (Int × Int)} {pa : Option Addr} {N : List ByteArray} (h : HdE B w0 w X L pa N) (g : ByteArray) (W : World) (hW : Below w.heap.size w W) (r : Nat) (hr : r = B + 1 ∨ r = B + 2) :
    Calls Try.prog 10 #[.pointer (some ⟨r, 0, none⟩), .string g] W fun e w' => ∃ a n c Y, e = .returned (.slice a n c) ∧ EntIn w' a n Y ∧ Y.map Ep.want = ((X 2).filter (ofG g)).map Ep.want ∧ Below W.heap.size W w' := by
  have hT := h.hd.below hW
  rcases hr with rfl | rfl
  · refine ((hT.own (i := 1) (by omega)).children g).mono ?_
    rintro e w' ⟨a, c, Y, rfl, hE, hb, hY⟩
    exact ⟨a, _, c, Y, rfl, hE, by rw [want_core hY, want_kw, want_kw, h.same], hb⟩
  · refine ((hT.own (i := 2) (by omega)).children g).mono ?_
    rintro e w' ⟨a, c, Y, rfl, hE, hb, hY⟩
    exact ⟨a, _, c, Y, rfl, hE, want_core hY, hb⟩
end Go.Proofs.Ytffdknjocmfmfaa
