/- table.Join. -/
import Derived.Test.YtffdknjocmfmfaaTbMath
import Derived.Test.YtffdknjocmfmfaaTbStr
import Derived.Test.YtffdknjocmfmfaaInsS
import Derived.Test.YtffdknjocmfmfaaRowMath
import Derived.Deep.LoopGhost
namespace Go.Proofs.Ytffdknjocmfmfaa
open Go.ChangeShapes Go.WideShapes Go.ChangeAt Go.RowKit
set_option linter.unusedVariables false

/-- The entries lie where the slice shows, each with its filters. -/
def EntIn (w : World) (a : Option Addr) (len : Nat) (X : List Ep) : Prop := X.length = len ∧ len ≤ 100000 ∧ (len = 0 ∨ ∃ b o, a = some ⟨b, o, none⟩ ∧ b < w.heap.size ∧ ∀ i, i < len → (StrIn w (X.getD i ep0).a (X.getD i ep0).ln (X.getD i ep0).fs ∧ (X.getD i ep0).ln ≤ 100000) ∧ ∀ j, j < 5 → w.cell? ⟨b, o + i * 5 + j, none⟩ = (X.getD i ep0).cells[j]?)
theorem StrIn.below {w w' : World} {a : Option Addr} {len : Nat} {L : List ByteArray} (h : StrIn w a len L) {B : Nat} (hB : w.heap.size ≤ B) (hb : Below B w w') : StrIn w' a len L := by
  refine ⟨h.1, ?_⟩
  rcases h.2 with h0 | ⟨b, o, ha, hlt, hc⟩
  · exact .inl h0
  · exact .inr ⟨b, o, ha, by have := hb.size; omega, fun j hj => (hb.cell (p := ⟨b, o + j, none⟩) (by show b < B; omega)).trans (hc j hj)⟩
theorem EntIn.below {w w' : World} {a : Option Addr} {len : Nat} {X : List Ep} (h : EntIn w a len X) (hb : Below w.heap.size w w') : EntIn w' a len X := by
  refine ⟨h.1, h.2.1, ?_⟩
  rcases h.2.2 with h0 | ⟨b, o, ha, hlt, hc⟩
  · exact .inl h0
  · exact .inr ⟨b, o, ha, by have := hb.size; omega, fun i hi => ⟨⟨(hc i hi).1.1.below (Nat.le_refl _) hb, (hc i hi).1.2⟩, fun j hj => (hb.cell (p := ⟨b, o + i * 5 + j, none⟩) hlt).trans ((hc i hi).2 j hj)⟩⟩
theorem EntIn.at {w : World} {a : Option Addr} {len : Nat} {X : List Ep} (h : EntIn w a len X) {i : Nat} (hi : i < len) : ∃ b o, a = some ⟨b, o, none⟩ ∧ b < w.heap.size ∧ StrIn w (X.getD i ep0).a (X.getD i ep0).ln (X.getD i ep0).fs ∧ (X.getD i ep0).ln ≤ 100000 ∧
    w.cell? ⟨b, o + i * 5, none⟩ = some (.string (X.getD i ep0).gr) ∧ w.cell? ⟨b, o + i * 5 + 1, none⟩ = some (.int .i64 (X.getD i ep0).ch) ∧ w.cell? ⟨b, o + i * 5 + 2, none⟩ = some (.slice (X.getD i ep0).a (X.getD i ep0).ln (X.getD i ep0).cp) ∧
    w.cell? ⟨b, o + i * 5 + 3, none⟩ = some (.bool (X.getD i ep0).any) ∧ w.cell? ⟨b, o + i * 5 + 4, none⟩ = some (.int .i64 (X.getD i ep0).till) := by
  obtain ⟨b, o, ha, hlt, hc⟩ := h.2.2.resolve_left (by omega)
  obtain ⟨⟨h1, h2⟩, h3⟩ := hc i hi
  refine ⟨b, o, ha, hlt, h1, h2, ?_, ?_, ?_, ?_, ?_⟩
  · have := h3 0 (by omega); simpa [Ep.cells] using this
  · have := h3 1 (by omega); simpa [Ep.cells] using this
  · have := h3 2 (by omega); simpa [Ep.cells] using this
  · have := h3 3 (by omega); simpa [Ep.cells] using this
  · have := h3 4 (by omega); simpa [Ep.cells] using this

/-- The filters so far, in a row of one's own. -/
structure JnS (w wr : World) (v : Value) (acc : List ByteArray) : Prop where
  row : wr.ownsRow w.heap.size 9 1 v acc.length (acc.map Value.string)
  bel : Below w.heap.size w wr
  asc : Asc ltS acc
  le : acc.length ≤ 16
theorem row_atJ {w w' : World} {B : Nat} {e : TypeId} {k n : Nat} {vs : Value} {xs : List Value} (h : w.ownsRow B e k vs n xs) (hb : ∀ x, vs.ownBlock = some x → w'.heap[x]? = w.heap[x]?) : w'.ownsRow B e k vs n xs := by
  refine ⟨h.1, ?_⟩
  rcases h.2 with h1 | ⟨g', cap, cur, hv, hbg, hg, hr⟩
  · exact .inl h1
  · exact .inr ⟨g', cap, cur, hv, hbg, (hb g' (by rw [hv]; rfl)).trans hg, hr⟩
theorem JnS.below {w wr w' : World} {v : Value} {acc : List ByteArray} (h : JnS w wr v acc) (hb : Below wr.heap.size wr w') : JnS w w' v acc :=
  ⟨row_atJ h.row (fun k hk => hb.block k (h.row.lt k hk).2), h.bel.trans (hb.mono h.bel.size), h.asc, h.le⟩
theorem JnS.shape {w wr : World} {v : Value} {acc : List ByteArray} (h : JnS w wr v acc) : ∃ a c, v = .slice a acc.length c := by
  rcases h.row.2 with ⟨rfl, h2⟩ | ⟨gg, c, cur, hv, _⟩
  · exact ⟨none, 0, by rw [h2]⟩
  · exact ⟨_, c, hv⟩
theorem strIn_own {w : World} {B : Nat} {a : Option Addr} {n c : Nat} {L : List ByteArray} (h : w.ownsRow B 9 1 (.slice a n c) n (L.map Value.string)) (hn : n = L.length) : StrIn w a n L := by
  refine ⟨hn.symm, ?_⟩
  rcases h.2 with ⟨_, h0⟩ | ⟨g, cap, cur, hv, _, hg, _⟩
  · exact .inl h0
  · have hc := h.cells (g := g) (by rw [hv]; rfl)
    simp only [Value.slice.injEq] at hv
    refine .inr ⟨g, 0, hv.1, (Array.getElem?_eq_some_iff.1 hg).1, fun j hj => ?_⟩
    have := hc j (.string (L.getD j ByteArray.empty)) (by
      rw [List.getElem?_map, List.getD_eq_getElem?_getD, List.getElem?_eq_getElem (by omega)]; rfl)
    rw [Addr.add_lit] at this
    exact this
theorem JnS.new (w : World) : JnS w w (.slice none 0 0) [] := ⟨World.ownsRow_nil _ _ _ _, Below.refl _ _, List.Pairwise.nil, by simp⟩
/-- One more. -/
theorem JnS.put {w wr w' : World} {v v' : Value} {acc : List ByteArray} {f : ByteArray} (h : JnS w wr v acc) (hf : f ∉ acc) (h16 : acc.length < 16)
    (ha : AppendK 1 w.heap.size 9 (wr.alloc (.cells #[.string f] 9)) w' v v' (acc.length + 1) ((acc.map Value.string).take (lb ltS acc f * 1) ++ [.string f] ++ (acc.map Value.string).drop (lb ltS acc f * 1))) : JnS w w' v' (putIn ltS acc f) := by
  have e : (putIn ltS acc f).map Value.string = (acc.map Value.string).take (lb ltS acc f * 1) ++ [.string f] ++ (acc.map Value.string).drop (lb ltS acc f * 1) := by
    unfold putIn; simp [Nat.mul_one, List.map_take, List.map_drop]
  refine ⟨?_, ?_, asc_putIn linS acc h.asc f hf, by rw [len_putIn]; omega⟩
  · rw [e, len_putIn]; exact ha.row
  · exact h.bel.trans (((Below.refl _ _).alloc (by exact h.bel.size) _).trans ⟨ha.grown.os, ha.grown.tape, ha.grown.output, ha.grown.size, fun k hk => ha.grown.block k (by have := h.bel.size; simp; omega) (fun e => by have := (h.row.lt k e.symm).1; omega)⟩)

set_option maxRecDepth 100000 in
set_option maxHeartbeats 4000000 in
theorem join_any (a : Option Addr) (len c : Nat) (X : List Ep) (w : World) (h : EntIn w a len X) :
    Calls Try.prog 13 #[.slice a len c] w fun e w' =>
      (joinE [] (X.map Ep.want) = none ∧ e = .returned (.tuple #[.slice none 0 0, .bool true]) ∧ Below w.heap.size w w') ∨
      (∃ acc v, joinE [] (X.map Ep.want) = some acc ∧ e = .returned (.tuple #[v, .bool false]) ∧ JnS w w' v acc) := by
  have HX : Hid (EntIn w a len X) := h
  have hlen := h.2.1
  clear h
  go_enter Try.func13, Try.ntmps13
  go_wp2
  go_loopg [4, 13] len (fun kx s4 s13 wr => ∃ (i n cc : Nat) (aa : Option Addr) (acc : List ByteArray), s13 = .int .i64 i ∧ i ≤ len ∧ kx = len - i ∧ s4 = .slice aa n cc ∧ n ≤ 16 ∧ Hid (n = acc.length ∧ JnS w wr (.slice aa n cc) acc ∧ joinE [] (X.map Ep.want) = joinE acc ((X.map Ep.want).drop i)))
  case atStart => exact ⟨0, 0, 0, none, [], rfl, Nat.zero_le _, rfl, rfl, by omega, (⟨rfl, JnS.new w, rfl⟩ : 0 = List.length _ ∧ JnS _ _ _ _ ∧ _)⟩
  case round =>
    obtain ⟨i, n, cc, aa, acc, rfl, hil, rfl, rfl, hn16, H⟩ := hrel
    by_cases hlt : i < len
    · obtain ⟨b, o, ha, hb, _, hln, c0, c1, c2, c3, c4⟩ := (HX.out.below H.out.2.1.bel).at hlt
      have hs : StrIn w (X.getD i ep0).a (X.getD i ep0).ln (X.getD i ep0).fs := by
        obtain ⟨_, _, _, _, hs, _⟩ := HX.out.at hlt
        exact hs
      subst ha
      have hstep : (X.map Ep.want).drop i = (X.getD i ep0).want :: (X.map Ep.want).drop (i + 1) := by
        have hXl := HX.out.1
        rw [drop_cons (ep0.want) (X.map Ep.want) i (by simp; omega)]
        congr 1
        rw [List.getD_eq_getElem?_getD, List.getElem?_map, List.getD_eq_getElem?_getD, List.getElem?_eq_getElem (by omega)]; rfl
      obtain ⟨x, hx⟩ : ∃ x, x = X.getD i ep0 := ⟨_, rfl⟩
      rw [← hx] at hs hln c0 c1 c2 c3 c4 hstep
      have HJ : Hid (joinE [] (X.map Ep.want) = joinE acc (x.want :: (X.map Ep.want).drop (i + 1))) := by rw [← hstep]; exact H.out.2.2
      clear hx hstep
      obtain ⟨gr, ch, fa, fl, fc, any, till, fs⟩ := x
      simp only at hs hln c0 c1 c2 c3 c4
      have hi0 : (0 : Int) ≤ (i : Int) := Int.natCast_nonneg _
      have hi1 : (i : Int) < (len : Int) := by omega
      have HS : Hid (StrIn w fa fl fs) := hs
      clear hs
      cases any with
      | true =>
        have HN : Hid (joinE [] (X.map Ep.want) = none) := (by rw [HJ.out]; simp [joinE, Ep.want] : joinE [] (X.map Ep.want) = none)
        go_wp2
        go_ret2
        exact .inl ⟨HN.out, rfl, H.out.2.1.bel.trans (((Below.refl _ _).alloc (by exact H.out.2.1.bel.size) _))⟩
      | false =>
        have HJ2 : Hid (∀ r, joinF acc fs = some r → joinE [] (X.map Ep.want) = joinE r ((X.map Ep.want).drop (i + 1))) := fun r hr => by rw [HJ.out]; simp [joinE, Ep.want, hr]
        have HJ3 : Hid (joinF acc fs = none → joinE [] (X.map Ep.want) = none) := fun hr => by rw [HJ.out]; simp [joinE, Ep.want, hr]
        have HW : Hid (JnS w (wr.alloc (.cells #[.string gr, .int .i64 ch, .slice fa fl fc, .bool false, .int .i64 till] 32)) (.slice aa n cc) acc ∧ n = acc.length) := ⟨H.out.2.1.below ((Below.refl _ _).alloc (Nat.le_refl _) _), H.out.1⟩
        clear HJ H
        go_wp2
        obtain ⟨w1, hw1⟩ : ∃ w1, w1 = wr.alloc (.cells #[.string gr, .int .i64 ch, .slice fa fl fc, .bool false, .int .i64 till] 32) := ⟨_, rfl⟩
        rw [← hw1] at HW ⊢
        clear hw1 c0 c1 c2 c3 c4
        go_loopg [4, 22] fl (fun ky s4 s22 wq => ∃ (j n2 c2 : Nat) (a2 : Option Addr) (acc2 : List ByteArray), s22 = .int .i64 j ∧ j ≤ fl ∧ ky = fl - j ∧ s4 = .slice a2 n2 c2 ∧ n2 ≤ 16 ∧ Hid (n2 = acc2.length ∧ JnS w wq (.slice a2 n2 c2) acc2 ∧ joinF acc fs = joinF acc2 (fs.drop j)))
        case atStart => exact ⟨0, n, cc, aa, acc, rfl, Nat.zero_le _, rfl, rfl, hn16, (⟨HW.out.2, HW.out.1, rfl⟩ : n = List.length _ ∧ JnS _ _ _ _ ∧ _)⟩
        case round =>
          obtain ⟨j, n2, c2, a2, acc2, rfl, hjl, rfl, rfl, hn2, H2⟩ := hrel
          rename World => wq
          clear HW
          by_cases hj : j < fl
          · obtain ⟨b2, o2, ha2, hb2, hc2⟩ := (HS.out.below (Nat.le_refl _) H2.out.2.1.bel).2.resolve_left (by omega)
            subst ha2
            have hcj := hc2 j hj
            have hjstep : fs.drop j = fs.getD j ByteArray.empty :: fs.drop (j + 1) := drop_cons _ fs j (by have := HS.out.1; omega)
            obtain ⟨f, hf⟩ : ∃ f, f = fs.getD j ByteArray.empty := ⟨_, rfl⟩
            rw [← hf] at hcj hjstep
            have HF : Hid (joinF acc fs = joinF acc2 (f :: fs.drop (j + 1))) := (by rw [← hjstep]; exact H2.out.2.2 : joinF acc fs = joinF acc2 (f :: fs.drop (j + 1)))
            clear hf hc2 hjstep
            have hj0 : (0 : Int) ≤ (j : Int) := Int.natCast_nonneg _
            have hj1 : (j : Int) < (fl : Int) := by omega
            have hrow := H2.out.2.1.row
            rw [← H2.out.1] at hrow
            have hbs := bs_any a2 n2 c2 acc2 f wq (strIn_own hrow H2.out.1) H2.out.2.1.asc (by omega)
            have HBS : Hid _ := hbs
            clear hbs hrow
            cases hh : hasS acc2 f with
            | true =>
              have HH : Hid (hasS acc2 f = true) := hh
              have HF2 : Hid (joinF acc fs = joinF acc2 (fs.drop (j + 1))) := (by rw [HF.out]; simp [joinF, hh] : joinF acc fs = joinF acc2 (fs.drop (j + 1)))
              clear hh
              go_wp2_with (go_at_call 26; refine Calls.mono HBS.out ?_; rintro e w' ⟨rfl, hw'⟩; subst w'; rw [HH.out])
              go_roundg (fl - (j + 1))
              case measure => omega
              case rel => exact ⟨j + 1, n2, c2, a2, acc2, by go_num, by omega, rfl, rfl, hn2, (⟨H2.out.1, H2.out.2.1, HF2.out⟩ : n2 = List.length _ ∧ JnS _ _ _ _ ∧ _)⟩
            | false =>
              have HH : Hid (hasS acc2 f = false) := hh
              have HNot : Hid (f ∉ acc2) := fun q => by have := (hasS_iff acc2 f).2 q; rw [hh] at this; cases this
              by_cases h16 : n2 = 16
              · have HF2 : Hid (joinF acc fs = none) := (by rw [HF.out]; simp [joinF, hh, ← H2.out.1, h16] : joinF acc fs = none)
                subst h16
                clear hh
                go_wp2_with (go_at_call 26; refine Calls.mono HBS.out ?_; rintro e w' ⟨rfl, hw'⟩; subst w'; rw [HH.out])
                go_ret2
                exact .inl ⟨HJ3.out HF2.out, rfl, H2.out.2.1.bel⟩
              · have HF2 : Hid (joinF acc fs = joinF (putIn ltS acc2 f) (fs.drop (j + 1))) := (by
                  have : ¬ acc2.length = 16 := by rw [← H2.out.1]; exact h16
                  rw [HF.out]; simp [joinF, hh, this] : joinF acc fs = joinF (putIn ltS acc2 f) (fs.drop (j + 1)))
                clear hh
                have hn16' : ((n2 : Int) == 16) = false := by simp; omega
                have hlb : lb ltS acc2 f ≤ n2 := by rw [H2.out.1]; exact lb_le _ _
                have hins := insStr_any w.heap.size (.slice a2 n2 c2) n2 (lb ltS acc2 f) (acc2.map Value.string) [.string f] wq.heap.size (wq.alloc (.cells #[.string f] 9))
                  (row_atJ (by have := H2.out.2.1.row; rw [← H2.out.1] at this; exact this) (fun k hk => Below.heap_alloc _ _ _ (H2.out.2.1.row.lt k hk).2)) hlb (by omega)
                  (fun v hv => by obtain ⟨s, _, rfl⟩ := List.mem_map.1 hv; rfl) (heap_alloc_new _ _) (fun e => by have := (H2.out.2.1.row.lt _ e).2; omega) rfl (fun v hv => by simp at hv; subst hv; rfl) (by have := H2.out.2.1.bel.size; simp; omega)
                obtain ⟨l, hl⟩ : ∃ l, l = lb ltS acc2 f := ⟨_, rfl⟩
                rw [← hl] at HBS hins hlb
                have HI : Hid _ := hins
                have HL : Hid (l = lb ltS acc2 f) := hl
                clear hins hl
                go_wp2_with (first
                  | (go_at_call 26; refine Calls.mono HBS.out ?_; rintro e w' ⟨rfl, hw'⟩; subst w'; rw [HH.out])
                  | (go_at_call 27; refine Calls.mono HI.out ?_; rintro e w3 ⟨v3, rfl, ha3⟩))
                have hput := JnS.put (w := w) (acc := acc2) (f := f) (by exact H2.out.2.1) HNot.out (by rw [← H2.out.1]; omega) (by rw [← HL.out, ← H2.out.1]; exact ha3)
                obtain ⟨a3, c3, hv3⟩ := ha3.shape
                subst hv3
                have H3 : Hid (n2 + 1 = (putIn ltS acc2 f).length ∧ JnS w w3 (.slice a3 (n2 + 1) c3) (putIn ltS acc2 f)) := ⟨by rw [len_putIn, ← H2.out.1], hput⟩
                clear ha3 hput
                go_wp2
                go_roundg (fl - (j + 1))
                case measure => omega
                case rel => exact ⟨j + 1, n2 + 1, c3, a3, putIn ltS acc2 f, by go_num, by omega, rfl, rfl, by omega, (⟨H3.out.1, H3.out.2, HF2.out⟩ : n2 + 1 = List.length _ ∧ JnS _ _ _ _ ∧ _)⟩
          · have hj1 : ¬ (j : Int) < (fl : Int) := by omega
            have HF2 : Hid (joinF acc fs = some acc2) := (by rw [H2.out.2.2, List.drop_eq_nil_of_le (by have := HS.out.1; omega)]; rfl : joinF acc fs = some acc2)
            go_wp2
            go_roundg (len - (i + 1))
            case measure => omega
            case rel => exact ⟨i + 1, n2, c2, a2, acc2, by go_num, by omega, rfl, rfl, hn2, (⟨H2.out.1, H2.out.2.1, HJ2.out _ HF2.out⟩ : n2 = List.length _ ∧ JnS _ _ _ _ ∧ _)⟩
    · have hi1 : ¬ (i : Int) < (len : Int) := by omega
      have HE : Hid (joinE [] (X.map Ep.want) = some acc) := by
        show _ = _
        rw [H.out.2.2, List.drop_eq_nil_of_le (by have := HX.out.1; simp; omega)]; rfl
      go_wp2
      go_ret2
      exact .inr ⟨acc, HE.out, _, rfl, H.out.2.1⟩
end Go.Proofs.Ytffdknjocmfmfaa
