/- slices.BinarySearchFunc of entries that rise. -/
import Derived.Test.YtffdknjocmfmfaaTbOrd
import Derived.Deep.QuietTactic
import Derived.BigQuiet
namespace Go.Proofs.Ytffdknjocmfmfaa
open Go.ChangeShapes Go.WideShapes Go.ChangeAt Go.RowKit
set_option linter.unusedVariables false

/-- Is the key among them? -/
def hasK (L : List (ByteArray × Int)) (x : ByteArray × Int) : Bool := L.any (fun y => cmpK y x == 0)
theorem hasK_iff (L : List (ByteArray × Int)) (x : ByteArray × Int) : hasK L x = true ↔ x ∈ L := by
  unfold hasK
  rw [List.any_eq_true]
  constructor
  · rintro ⟨y, hy, h⟩
    have : y = x := (cmpK_zero y x).1 (by simpa using h)
    rw [← this]; exact hy
  · intro h; exact ⟨x, h, by simpa using (cmpK_zero x x).2 rfl⟩
theorem hasK_no {L : List (ByteArray × Int)} {x : ByteArray × Int} (h : x ∉ L) : hasK L x = false := by
  cases q : hasK L x with
  | false => rfl
  | true => exact absurd ((hasK_iff L x).1 q) h
theorem keys_getD (X : List Ep) (i : Nat) (h : i < X.length) : (X.map Ep.key).getD i (ByteArray.empty, 0) = (X.getD i ep0).key := by
  rw [List.getD_eq_getElem?_getD, List.getElem?_map, List.getD_eq_getElem?_getD, List.getElem?_eq_getElem h]; rfl

theorem cgE {w w' : World} {a : Addr} {v : Value} (h : w.cell? a = some v) (hb : Below w.heap.size w w') : w'.cell? a = some v := by
  rw [← h]
  exact World.cell?_of_block (hb.block a.block (World.block_lt_of_cell? _ _ h))
/-- The box of the entry that is looked for, and what lay below it. -/
structure EBox (w wr : World) (z : Nat) (g : ByteArray) (c : Int) (f : Option Addr) (l p : Nat) (a : Bool) (t : Int) : Prop where
  blk : wr.heap[z]? = some (.cells #[.string g, .int .i64 c, .slice f l p, .bool a, .int .i64 t] 32 (0, 0))
  bel : Below w.heap.size w wr
theorem lt_blk {w : World} {g : Nat} {o : Obj} (h : w.heap[g]? = some o) : g < w.heap.size := (Array.getElem?_eq_some_iff.1 h).1
theorem EBox.below {w wr w' : World} {z : Nat} {g : ByteArray} {c : Int} {f : Option Addr} {l p : Nat} {a : Bool} {t : Int} (h : EBox w wr z g c f l p a t) (hb : Below wr.heap.size wr w') : EBox w w' z g c f l p a t :=
  ⟨(hb.block _ (lt_blk h.blk)).trans h.blk, h.bel.trans (hb.mono h.bel.size)⟩
theorem EBox.cells {w wr : World} {z : Nat} {g : ByteArray} {c : Int} {f : Option Addr} {l p : Nat} {a : Bool} {t : Int} (h : EBox w wr z g c f l p a t) :
    wr.cell? ⟨z, 0, none⟩ = some (.string g) ∧ wr.cell? ⟨z, 1, none⟩ = some (.int .i64 c) ∧ wr.cell? ⟨z, 2, none⟩ = some (.slice f l p) ∧ wr.cell? ⟨z, 3, none⟩ = some (.bool a) ∧ wr.cell? ⟨z, 4, none⟩ = some (.int .i64 t) := by
  have := h.blk
  refine ⟨?_, ?_, ?_, ?_, ?_⟩ <;> simp [World.cell?, this]

set_option maxRecDepth 100000 in
set_option maxHeartbeats 4000000 in
theorem bsf_any (ra : Option Addr) (len rc : Nat) (X : List Ep) (g : ByteArray) (c : Int) (f : Option Addr) (l p : Nat) (a : Bool) (t : Int) (w : World) (h : EntIn w ra len X) (hK : Asc ltK (X.map Ep.key)) :
    Calls Try.prog 15 #[.slice ra len rc, .agg #[.string g, .int .i64 c, .slice f l p, .bool a, .int .i64 t], .func (.func 16) #[] #[]] w fun e w' => e = .returned (.tuple #[.int .i64 (lb ltK (X.map Ep.key) (g, c)), .bool (hasK (X.map Ep.key) (g, c))]) ∧ Below w.heap.size w w' := by
  have hlen := h.2.1
  have hXl : (X.map Ep.key).length = len := by simpa using h.1
  obtain ⟨k, hk⟩ : ∃ k, k = lb ltK (X.map Ep.key) (g, c) := ⟨_, rfl⟩
  have hkl : k ≤ len := by rw [hk, ← hXl]; exact lb_le _ _
  have h1 : ∀ t, t < k → cmpK (X.getD t ep0).key (g, c) < 0 := fun t ht => by
    rw [cmpK_neg, ← keys_getD X t (by have := h.1; omega)]
    exact lb_less _ _ _ t (by rw [← hk]; exact ht)
  have h2 : ∀ t, k ≤ t → t < len → ¬ cmpK (X.getD t ep0).key (g, c) < 0 := fun t ht hl => by
    rw [cmpK_neg, ← keys_getD X t (by have := h.1; omega), lb_not _ linK _ hK _ t (by rw [← hk]; exact ht) (by rw [hXl]; exact hl)]
    simp
  have h3 := lb_hit (ByteArray.empty, (0 : Int)) linK _ hK (g, c)
  rw [← hk, hXl] at h3
  have HX : Hid (EntIn w ra len X) := h
  have H1 : Hid _ := h1
  have H2 : Hid _ := h2
  have H3 : Hid (k < len → (cmpK (X.getD k ep0).key (g, c) = 0 ↔ (g, c) ∈ X.map Ep.key)) := fun hkn => by
    rw [cmpK_zero, ← keys_getD X k (by have := h.1; omega)]
    exact ⟨fun e => h3.1 ⟨hkn, e⟩, fun e => (h3.2 e).2⟩
  have H4 : Hid (¬ k < len → (g, c) ∉ X.map Ep.key) := fun hkn e => hkn (h3.2 e).1
  have HKE : Hid (lb ltK (X.map Ep.key) (g, c) = k) := hk.symm
  have hbox : EBox w (w.alloc (.cells #[.string g, .int .i64 c, .slice f l p, .bool a, .int .i64 t] 32)) w.heap.size g c f l p a t := ⟨heap_alloc_new w _, (Below.refl _ _).alloc (Nat.le_refl _) _⟩
  have HB0 : Hid _ := hbox
  clear h h1 h2 h3 hk hXl hbox
  go_enter Try.func15, Try.ntmps15
  go_wp2
  go_loopg [9, 10] len (fun kx x y wr => ∃ lo hi : Nat, x = .int .i64 lo ∧ y = .int .i64 hi ∧ lo ≤ k ∧ k ≤ hi ∧ hi ≤ len ∧ hi - lo ≤ kx ∧ Hid (EBox w wr w.heap.size g c f l p a t))
  case atStart => exact ⟨0, len, rfl, rfl, Nat.zero_le _, hkl, Nat.le_refl _, by omega, HB0⟩
  case round =>
    obtain ⟨lo, hi, rfl, rfl, hlo, hhi, hhl, hkx, HB⟩ := hrel
    clear HB0
    obtain ⟨y0, y1, y2, y3, y4⟩ := HB.out.cells
    have yl := lt_blk HB.out.blk
    by_cases hlt : lo < hi
    · obtain ⟨m, hm⟩ : ∃ m, m = (lo + hi) / 2 := ⟨_, rfl⟩
      have hm1 : lo ≤ m := by omega
      have hm2 : m < hi := by omega
      have hml : m < len := by omega
      obtain ⟨b, o, ha, hb, _, _, c0, c1, c2, c3, c4⟩ := (HX.out.below HB.out.bel).at hml
      subst ha
      have hmi : ((lo : Int) + (hi : Int)) / 2 = (m : Int) := by omega
      have hm0 : (0 : Int) ≤ (m : Int) := Int.natCast_nonneg _
      have hmli : (m : Int) < (len : Int) := by omega
      clear hm
      obtain ⟨x, hx⟩ : ∃ x, x = X.getD m ep0 := ⟨_, rfl⟩
      rw [← hx] at c0 c1 c2 c3 c4
      by_cases hmk : m < k
      · have hq := H1.out m hmk
        rw [← hx] at hq
        have HQ : Hid _ := hq
        clear hx hq
        obtain ⟨g', c', f', l', p', a', t', fs'⟩ := x
        simp only [Ep.key] at c0 c1 c2 c3 c4 HQ
        obtain ⟨kv, hkv⟩ : ∃ kv, kv = cmpK (g', c') (g, c) := ⟨_, rfl⟩
        have hkn : kv < 0 := by rw [hkv]; exact HQ.out
        have HKV : Hid (cmpK (g', c') (g, c) = kv) := hkv.symm
        clear hkv
        go_upto_region 5 with fail
        go_cut [31] (fun v wx => v = .bool true ∧ Hid (EBox w wx w.heap.size g c f l p a t))
        case first =>
          go_region_held3 (fun w' => w'.cell? ⟨w.heap.size, 0, none⟩ = some (.string g) ∧ w'.cell? ⟨w.heap.size, 1, none⟩ = some (.int .i64 c) ∧ w'.cell? ⟨w.heap.size, 2, none⟩ = some (.slice f l p) ∧ w'.cell? ⟨w.heap.size, 3, none⟩ = some (.bool a) ∧ w'.cell? ⟨w.heap.size, 4, none⟩ = some (.int .i64 t) ∧ w'.cell? ⟨b, o + m * 5, none⟩ = some (.string g') ∧ w'.cell? ⟨b, o + m * 5 + 1, none⟩ = some (.int .i64 c') ∧ w'.cell? ⟨b, o + m * 5 + 2, none⟩ = some (.slice f' l' p') ∧ w'.cell? ⟨b, o + m * 5 + 3, none⟩ = some (.bool a') ∧ w'.cell? ⟨b, o + m * 5 + 4, none⟩ = some (.int .i64 t'))
          (first
            | go_keep
            | assumption)
          (first
            | (go_at_call 16; refine (order_any _ _ _ _ _ _ _ _ _ _ _ _ _ _ _).mono ?_; rintro e w2 ⟨rfl, hb2⟩
               have hb3 : Below wr.heap.size wr w2 := ⟨hb2.os, hb2.tape, hb2.output, hb2.size, hb2.block⟩
               have q0 := cgE y0 hb3
               have q1 := cgE y1 hb3
               have q2 := cgE y2 hb3
               have q3 := cgE y3 hb3
               have q4 := cgE y4 hb3
               have r0 := cgE c0 hb3
               have r1 := cgE c1 hb3
               have r2 := cgE c2 hb3
               have r3 := cgE c3 hb3
               have r4 := cgE c4 hb3
               have H5 : Hid (EBox w w2 w.heap.size g c f l p a t) := HB.out.below hb3
               clear hb2 hb3))
          all_goals (try go_wp2_with fail)
          all_goals go_meet
          all_goals exact ⟨by rw [HKV.out]; simp [hkn], H5⟩
        case rest =>
          obtain ⟨rfl, H6⟩ := hcut
          go_wp2
          go_roundg (hi - (m + 1))
          case measure => omega
          case rel => exact ⟨m + 1, hi, by go_num, rfl, by omega, by omega, by omega, by omega, H6⟩
      · have hq := H2.out m (by omega) hml
        rw [← hx] at hq
        have HQ : Hid _ := hq
        clear hx hq
        obtain ⟨g', c', f', l', p', a', t', fs'⟩ := x
        simp only [Ep.key] at c0 c1 c2 c3 c4 HQ
        obtain ⟨kv, hkv⟩ : ∃ kv, kv = cmpK (g', c') (g, c) := ⟨_, rfl⟩
        have hkn : ¬ kv < 0 := by rw [hkv]; have := HQ.out; omega
        have HKV : Hid (cmpK (g', c') (g, c) = kv) := hkv.symm
        clear hkv
        go_upto_region 5 with fail
        go_cut [31] (fun v wx => v = .bool false ∧ Hid (EBox w wx w.heap.size g c f l p a t))
        case first =>
          go_region_held3 (fun w' => w'.cell? ⟨w.heap.size, 0, none⟩ = some (.string g) ∧ w'.cell? ⟨w.heap.size, 1, none⟩ = some (.int .i64 c) ∧ w'.cell? ⟨w.heap.size, 2, none⟩ = some (.slice f l p) ∧ w'.cell? ⟨w.heap.size, 3, none⟩ = some (.bool a) ∧ w'.cell? ⟨w.heap.size, 4, none⟩ = some (.int .i64 t) ∧ w'.cell? ⟨b, o + m * 5, none⟩ = some (.string g') ∧ w'.cell? ⟨b, o + m * 5 + 1, none⟩ = some (.int .i64 c') ∧ w'.cell? ⟨b, o + m * 5 + 2, none⟩ = some (.slice f' l' p') ∧ w'.cell? ⟨b, o + m * 5 + 3, none⟩ = some (.bool a') ∧ w'.cell? ⟨b, o + m * 5 + 4, none⟩ = some (.int .i64 t'))
          (first
            | go_keep
            | assumption)
          (first
            | (go_at_call 16; refine (order_any _ _ _ _ _ _ _ _ _ _ _ _ _ _ _).mono ?_; rintro e w2 ⟨rfl, hb2⟩
               have hb3 : Below wr.heap.size wr w2 := ⟨hb2.os, hb2.tape, hb2.output, hb2.size, hb2.block⟩
               have q0 := cgE y0 hb3
               have q1 := cgE y1 hb3
               have q2 := cgE y2 hb3
               have q3 := cgE y3 hb3
               have q4 := cgE y4 hb3
               have r0 := cgE c0 hb3
               have r1 := cgE c1 hb3
               have r2 := cgE c2 hb3
               have r3 := cgE c3 hb3
               have r4 := cgE c4 hb3
               have H5 : Hid (EBox w w2 w.heap.size g c f l p a t) := HB.out.below hb3
               clear hb2 hb3))
          all_goals (try go_wp2_with fail)
          all_goals go_meet
          all_goals exact ⟨by rw [HKV.out]; simp [hkn], H5⟩
        case rest =>
          obtain ⟨rfl, H6⟩ := hcut
          go_wp2
          go_roundg (m - lo)
          case measure => omega
          case rel => exact ⟨lo, m, rfl, rfl, by omega, by omega, by omega, by omega, H6⟩
    · obtain rfl : lo = k := by omega
      obtain rfl : hi = lo := by omega
      by_cases hkn : hi < len
      · obtain ⟨b, o, ha, hb, _, _, c0, c1, c2, c3, c4⟩ := (HX.out.below HB.out.bel).at hkn
        subst ha
        have hm0 : (0 : Int) ≤ (hi : Int) := Int.natCast_nonneg _
        have hmli : (hi : Int) < (len : Int) := by omega
        obtain ⟨x, hx⟩ : ∃ x, x = X.getD hi ep0 := ⟨_, rfl⟩
        have h3 := H3.out hkn
        rw [← hx] at c0 c1 c2 c3 c4 h3
        obtain ⟨g', c', f', l', p', a', t', fs'⟩ := x
        simp only [Ep.key] at c0 c1 c2 c3 c4 h3
        obtain ⟨kv, hkv⟩ : ∃ kv, kv = cmpK (g', c') (g, c) := ⟨_, rfl⟩
        rw [← hkv] at h3
        have HH : Hid (hasK (X.map Ep.key) (g, c) = (kv == 0)) := by
          show _ = _
          by_cases e : kv = 0
          · rw [(hasK_iff _ _).2 (h3.1 e), e]; rfl
          · rw [hasK_no (fun q => e (h3.2 q))]; symm; simpa using e
        have HKV : Hid (cmpK (g', c') (g, c) = kv) := hkv.symm
        clear hkv h3 hx
        go_upto_region 8 with fail
        go_cut [6, 7] (fun v v2 wx => v = .int .i64 hi ∧ v2 = .bool (kv == 0) ∧ Hid (EBox w wx w.heap.size g c f l p a t))
        case first =>
          go_region_held3 (fun w' => w'.cell? ⟨w.heap.size, 0, none⟩ = some (.string g) ∧ w'.cell? ⟨w.heap.size, 1, none⟩ = some (.int .i64 c) ∧ w'.cell? ⟨w.heap.size, 2, none⟩ = some (.slice f l p) ∧ w'.cell? ⟨w.heap.size, 3, none⟩ = some (.bool a) ∧ w'.cell? ⟨w.heap.size, 4, none⟩ = some (.int .i64 t) ∧ w'.cell? ⟨b, o + hi * 5, none⟩ = some (.string g') ∧ w'.cell? ⟨b, o + hi * 5 + 1, none⟩ = some (.int .i64 c') ∧ w'.cell? ⟨b, o + hi * 5 + 2, none⟩ = some (.slice f' l' p') ∧ w'.cell? ⟨b, o + hi * 5 + 3, none⟩ = some (.bool a') ∧ w'.cell? ⟨b, o + hi * 5 + 4, none⟩ = some (.int .i64 t'))
          (first
            | go_keep
            | assumption)
          (first
            | (go_at_call 16; refine (order_any _ _ _ _ _ _ _ _ _ _ _ _ _ _ _).mono ?_; rintro e w2 ⟨rfl, hb2⟩
               have hb3 : Below wr.heap.size wr w2 := ⟨hb2.os, hb2.tape, hb2.output, hb2.size, hb2.block⟩
               have q0 := cgE y0 hb3
               have q1 := cgE y1 hb3
               have q2 := cgE y2 hb3
               have q3 := cgE y3 hb3
               have q4 := cgE y4 hb3
               have r0 := cgE c0 hb3
               have r1 := cgE c1 hb3
               have r2 := cgE c2 hb3
               have r3 := cgE c3 hb3
               have r4 := cgE c4 hb3
               have H5 : Hid (EBox w w2 w.heap.size g c f l p a t) := HB.out.below hb3
               clear hb2 hb3))
          all_goals (try go_wp2_with fail)
          all_goals go_meet
          all_goals exact ⟨by simp, by rw [HKV.out], H5⟩
        case rest =>
          obtain ⟨rfl, rfl, H6⟩ := hcut
          go_wp2
          go_ret2
          exact ⟨by rw [HKE.out, HH.out]; simp, H6.out.bel⟩
      · have hmli : ¬ (hi : Int) < (len : Int) := by omega
        have hmd : decide ((hi : Int) < (len : Int)) = false := by simpa using hmli
        have HH : Hid (hasK (X.map Ep.key) (g, c) = false) := hasK_no (H4.out hkn)
        go_wp2_with fail
        go_quiet (fail)
        go_wp2
        go_ret2
        exact ⟨by rw [HKE.out, HH.out]; simp, HB.out.bel.trans ⟨rfl, rfl, rfl, Nat.le_refl _, fun _ _ => rfl⟩⟩
end Go.Proofs.Ytffdknjocmfmfaa
