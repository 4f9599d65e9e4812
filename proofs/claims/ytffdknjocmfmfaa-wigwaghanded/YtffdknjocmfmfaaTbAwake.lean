/- What layer 13's document fixes (awake); a table of one's own. -/
import Derived.Test.YtffdknjocmfmfaaTbChild2
namespace Go.Proofs.Ytffdknjocmfmfaa
open Go.ChangeShapes Go.WideShapes Go.ChangeAt Go.RowKit
set_option linter.unusedVariables false

/-- A table that lies from B on, and all below B as it was. -/
structure OwnT (B : Nat) (w0 w : World) (r : Nat) (X : List Ep) : Prop where
  tab : ∃ v, Tb w B r v X
  bel : Below B w0 w
  size : B ≤ w.heap.size
theorem OwnT.new (w : World) : OwnT w.heap.size w (w.alloc (.cells #[.slice none 0 0] 26)) w.heap.size [] := ⟨⟨_, Tb.new w⟩, (Below.refl _ _).alloc (Nat.le_refl _) _, by simp⟩
theorem OwnT.below {B : Nat} {w0 w w' : World} {r : Nat} {X : List Ep} (h : OwnT B w0 w r X) (hb : Below w.heap.size w w') : OwnT B w0 w' r X := by
  obtain ⟨v, hv⟩ := h.tab
  exact ⟨⟨v, hv.below hb⟩, h.bel.trans (hb.mono h.size), Nat.le_trans h.size hb.size⟩
theorem OwnT.put {B : Nat} {w0 w : World} {r : Nat} {X : List Ep} (h : OwnT B w0 w r X) (g : ByteArray) (c : Int) (fa : Option Addr) (fl fc : Nat) (any : Bool) (till : Int) (fs : List ByteArray) (hf : StrIn w fa fl fs) (hfl : fl ≤ 100000) (hroom : hasK (X.map Ep.key) (g, c) = true ∨ X.length < 400) :
    Calls Try.prog 5 #[.pointer (some ⟨r, 0, none⟩), .agg #[.string g, .int .i64 c, .slice fa fl fc, .bool any, .int .i64 till]] w fun e w' =>
      e = .returned .nilIface ∧ ∃ x', (x'.key = (g, c) ∧ x'.till = till ∧ x'.want = cleanW (any, fs)) ∧ OwnT B w0 w' r (putE X x') ∧ w.heap.size ≤ w'.heap.size := by
  obtain ⟨v, hv⟩ := h.tab
  refine (put_any B r v X g c fa fl fc any till fs w hv hf hfl h.size hroom).mono ?_
  rintro e w' ⟨rfl, v', x', hx, hT, hK, _⟩
  exact ⟨rfl, x', hx, ⟨⟨v', hT⟩, h.bel.trans (hK.below hv.lo hv.vlo h.size), Nat.le_trans h.size hK.size⟩, hK.size⟩
theorem OwnT.len {B : Nat} {w0 w : World} {r : Nat} {X : List Ep} (h : OwnT B w0 w r X) :
    Calls Try.prog 7 #[.pointer (some ⟨r, 0, none⟩)] w fun e w' => e = .returned (.int .i64 X.length) ∧ w' = w := by
  obtain ⟨v, hv⟩ := h.tab
  exact len_any B r v X w hv
theorem OwnT.children {B : Nat} {w0 w : World} {r : Nat} {X : List Ep} (h : OwnT B w0 w r X) (g : ByteArray) :
    Calls Try.prog 10 #[.pointer (some ⟨r, 0, none⟩), .string g] w fun e w' => ∃ a c Y, e = .returned (.slice a Y.length c) ∧ EntIn w' a Y.length Y ∧ Below w.heap.size w w' ∧ Y.map Ep.core = (X.filter (ofG g)).map Ep.core := by
  obtain ⟨v, hv⟩ := h.tab
  refine (children_any B r v X g w hv).mono ?_
  rintro e w' ⟨v', Y, rfl, hE, hY⟩
  obtain ⟨a, c, rfl⟩ := hE.shape
  have hl : Y.length ≤ 400 := by
    have h1 := congrArg List.length hY
    simp only [List.length_map] at h1
    have h2 := List.length_filter_le (ofG g) X
    have h3 := hv.le
    omega
  exact ⟨a, c, Y, rfl, hE.ent (by omega), hE.bel, hY⟩

def sg : ByteArray := ⟨#[103]⟩
def sa : ByteArray := ⟨#[97]⟩
def sb : ByteArray := ⟨#[98]⟩
theorem aw_clean : cleanW (false, [sb, sa]) = (false, [sa, sb]) := by
  simp [cleanW, joinE, joinF, hasS, putIn, lb, ltS, sa, sb, ByteArray.toList_eq, Op.bytesLess]
theorem aw_any : cleanW (true, []) = (true, []) := by simp [cleanW, joinE]
theorem aw_has {x : Ep} (h : x.key = (sg, 2)) : hasK ([x].map Ep.key) (sg, 1) = false := by
  simp [hasK, h, cmpK, cmpO, cmpS, cmpI, ltS, bl_irr]
theorem aw_put {x y : Ep} (h : x.key = (sg, 2)) (hy : y.key = (sg, 1)) : putE [x] y = [y, x] := by
  unfold putE
  rw [hy, aw_has h]
  simp [lb, h, ltK, ltS, bl_irr]
theorem aw_fil {x y : Ep} (h : x.key = (sg, 2)) (hy : y.key = (sg, 1)) : [y, x].filter (ofG sg) = [y, x] := by
  have e1 : x.gr = sg := congrArg Prod.fst h
  have e2 : y.gr = sg := congrArg Prod.fst hy
  simp [ofG, e1, e2]
theorem strIn_two (w : World) (s t : ByteArray) (z : Nat) (hz : w.heap[z]? = some (.cells #[.string s, .string t] 9 (0, 0))) : StrIn w (some ⟨z, 0, none⟩) 2 [s, t] := by
  refine ⟨rfl, .inr ⟨z, 0, rfl, lt_blk hz, fun j hj => ?_⟩⟩
  have : j = 0 ∨ j = 1 := by omega
  rcases this with rfl | rfl <;> simp [World.cell?, hz]

set_option maxRecDepth 100000 in
set_option maxHeartbeats 2000000 in
theorem awake13_any (w : World) :
    Calls Try.prog 11 #[] w fun e w' => e = .returned (.bool true) ∧ Below w.heap.size w w' := by
  have H0 : Hid (OwnT w.heap.size w ((w.alloc (.cells #[.slice none 0 0] 26)).alloc (.cells #[.string sb, .string sa] 9)) w.heap.size []) := (OwnT.new w).below ((Below.refl _ _).alloc (Nat.le_refl _) _)
  have HS0 : Hid (StrIn ((w.alloc (.cells #[.slice none 0 0] 26)).alloc (.cells #[.string sb, .string sa] 9)) (some ⟨w.heap.size + 1, 0, none⟩) 2 [sb, sa]) := by
    have := strIn_two ((w.alloc (.cells #[.slice none 0 0] 26)).alloc (.cells #[.string sb, .string sa] 9)) sb sa (w.heap.size + 1) (by
      have := heap_alloc_new (w.alloc (.cells #[.slice none 0 0] 26)) (.cells #[.string sb, .string sa] 9)
      simpa using this)
    exact this
  go_enter Try.func11, Try.ntmps11
  go_wp2_with fail
  refine (H0.out.put sg 2 (some ⟨w.heap.size + 1, 0, none⟩) 2 2 false 0 [sb, sa] HS0.out (by omega) (.inr (by simp))).mono ?_
  rintro e w1 ⟨rfl, x1, hx1, hT1, _⟩
  have e1 : putE [] x1 = [x1] := by simp [putE, hasK, lb]
  rw [e1] at hT1
  have H1 : Hid _ := hT1
  have HX1 : Hid _ := hx1
  clear hT1 hx1 e1 H0 HS0
  go_wp2_with fail
  refine (H1.out.put sg 1 none 0 0 true 0 [] ⟨rfl, .inl rfl⟩ (by omega) (.inr (by simp))).mono ?_
  rintro e w2 ⟨rfl, x2, hx2, hT2, _⟩
  rw [aw_put HX1.out.1 hx2.1] at hT2
  have H2 : Hid _ := hT2
  have HX2 : Hid _ := hx2
  clear hT2 hx2 H1
  go_wp2_with fail
  refine (H2.out.children sg).mono ?_
  rintro e w3 ⟨a3, c3, Y, rfl, hE, hb3, hY⟩
  rw [aw_fil HX1.out.1 HX2.out.1] at hY
  have hYl : Y.length = 2 := by have := congrArg List.length hY; simpa using this
  obtain ⟨y0, y1, rfl⟩ : ∃ y0 y1, Y = [y0, y1] := by
    match Y, hYl with
    | [y0, y1], _ => exact ⟨y0, y1, rfl⟩
  simp only [List.map_cons, List.map_nil, List.cons.injEq, and_true] at hY
  have hany : y0.any = true := by
    have h1 : y0.any = x2.any := congrArg Core.any hY.1
    have h2 : x2.any = true := congrArg Prod.fst (HX2.out.2.2.trans aw_any)
    rw [h1, h2]
  have hfs : y1.fs = [sa, sb] := by
    have h1 : y1.fs = x1.fs := congrArg Core.fs hY.2
    have h2 : x1.fs = [sa, sb] := congrArg Prod.snd (HX1.out.2.2.trans aw_clean)
    rw [h1, h2]
  obtain ⟨b, o, ha, hlt, _, _, _, _, _, p3, _⟩ := hE.at (i := 0) (by simp)
  obtain ⟨b', o', ha', _, q1, q2, _, _, p2, _, _⟩ := hE.at (i := 1) (by simp)
  subst ha
  simp only [Option.some.injEq, Addr.mk.injEq] at ha'
  obtain ⟨rfl, rfl, _⟩ := ha'
  simp only [List.getD_cons_zero, List.getD_cons_succ, Nat.zero_mul, Nat.add_zero, Nat.one_mul, List.length_cons, List.length_nil] at p2 p3 q1 q2 ⊢
  rw [hany] at p3
  have H3 : Hid (OwnT w.heap.size w w3 w.heap.size [x2, x1]) := H2.out.below hb3
  have HQ : Hid (StrIn w3 y1.a y1.ln y1.fs ∧ y1.fs = [sa, sb]) := ⟨q1, hfs⟩
  clear hE hb3 hY hany hfs q1 hYl
  have HT : Hid (Calls Try.prog 14 #[.slice y1.a y1.ln y1.cp, .slice (some ⟨w3.heap.size, 0, none⟩) 2 2] (w3.alloc (.cells #[.string sa, .string sb] 9)) fun e w' => e = .returned (.bool true) ∧ Below (w3.alloc (.cells #[.string sa, .string sb] 9)).heap.size (w3.alloc (.cells #[.string sa, .string sb] 9)) w') :=
    texts_any y1.a _ y1.ln 2 y1.cp 2 y1.fs [sa, sb] _ (HQ.out.1.below (Nat.le_refl _) ((Below.refl _ _).alloc (Nat.le_refl _) _)) (strIn_two _ sa sb w3.heap.size (heap_alloc_new w3 _)) q2 (by omega) HQ.out.2
  have H4 : Hid (OwnT w.heap.size w (w3.alloc (.cells #[.string sa, .string sb] 9)) w.heap.size [x2, x1]) := H3.out.below ((Below.refl _ _).alloc (Nat.le_refl _) _)
  clear H2 H3 HQ HX1 HX2
  generalize y1.a = ya at p2 HT
  generalize y1.ln = yl at p2 HT q2
  generalize y1.cp = yc at p2 HT
  go_wp2_with (first
    | (go_at_call 14; refine Calls.mono HT.out ?_; rintro e w5 ⟨rfl, hb5⟩; have H5 : Hid (OwnT w.heap.size w w5 w.heap.size [x2, x1]) := H4.out.below hb5; clear hb5)
    | (go_at_call 7; refine (H5.out.len).mono ?_; rintro e w6 ⟨rfl, rfl⟩))
  go_ret
  exact ⟨ret_b (by simp), H5.out.bel⟩
end Go.Proofs.Ytffdknjocmfmfaa
