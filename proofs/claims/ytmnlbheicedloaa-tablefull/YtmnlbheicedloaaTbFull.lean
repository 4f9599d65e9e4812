/- Put into a full table; TableFull's sums. -/
import Derived.Test.YtmnlbheicedloaaTbExp
import Derived.Test.YtmnlbheicedloaaTbLast
import Derived.Test.YtmnlbheicedloaaTbPut
import Derived.Deep.RegionHeld3
import Derived.Deep.CutBlock
import Derived.Deep.DeepCutAuto
namespace Go.Proofs.Ytmnlbheicedloaa
open Go.ChangeShapes Go.WideShapes Go.ChangeAt Go.RowKit
set_option linter.unusedVariables false

set_option maxRecDepth 100000 in
set_option maxHeartbeats 4000000 in
theorem put_full (B r : Nat) (v : Value) (X : List Ep) (g : ByteArray) (c : Int) (fa : Option Addr) (fl fc : Nat) (any : Bool) (till : Int) (fs : List ByteArray) (w : World) (h : Tb w B r v X) (hf : StrIn w fa fl fs) (hfl : fl ≤ 100000) (hB : B ≤ w.heap.size) (hno : hasK (X.map Ep.key) (g, c) = false) (hroom : 400 ≤ X.length) :
    Calls Try.prog 8 #[.pointer (some ⟨r, 0, none⟩), .agg #[.string g, .int .i64 c, .slice fa fl fc, .bool any, .int .i64 till]] w fun e w' =>
      e = .returned (.iface 42 (.int .i64 4)) ∧ Below w.heap.size w w' := by
  obtain ⟨a, cp, hv⟩ := h.shape
  subst hv
  have hle := h.le
  obtain ⟨n, hn⟩ : ∃ n, n = X.length := ⟨_, rfl⟩
  rw [← hn] at h hle hroom
  have HN : Hid (n = X.length) := hn
  obtain ⟨k, hk⟩ : ∃ k, k = lb ltK (X.map Ep.key) (g, c) := ⟨_, rfl⟩
  obtain ⟨hs, hhs⟩ : ∃ hs, hs = hasK (X.map Ep.key) (g, c) := ⟨_, rfl⟩
  rw [← hhs] at hno
  have HNO : Hid (hs = false) := hno
  clear hno
  have HK : Hid (lb ltK (X.map Ep.key) (g, c) = k) := hk.symm
  have HS : Hid (hasK (X.map Ep.key) (g, c) = hs) := hhs.symm
  have HT : Hid (Tb w B r (.slice a n cp) X) := h
  have HF : Hid (StrIn w fa fl fs) := hf
  have hbsf : ∀ W, Below w.heap.size w W → Calls Try.prog 18 #[.slice a n cp, .agg #[.string g, .int .i64 c, .slice fa fl fc, .bool any, .int .i64 till], .func (.func 19) #[] #[]] W fun e w' => e = .returned (.tuple #[.int .i64 k, .bool hs]) ∧ Below W.heap.size W w' := fun W hb => by
    have := bsf_any a n cp X g c fa fl fc any till W (by have := (h.below hb); rw [hn] at this ⊢; exact this.ent) h.asc
    rw [← hk, ← hhs] at this
    exact this
  have HBS : Hid _ := hbsf
  have hrl := h.lt
  have x0 := h.cell
  have hbox : EBox w (w.alloc (.cells #[.string g, .int .i64 c, .slice fa fl fc, .bool any, .int .i64 till] 32)) w.heap.size g c fa fl fc any till := ⟨heap_alloc_new w _, (Below.refl _ _).alloc (Nat.le_refl _) _⟩
  obtain ⟨W0, hW0⟩ : ∃ W0, W0 = w.alloc (.cells #[.string g, .int .i64 c, .slice fa fl fc, .bool any, .int .i64 till] 32) := ⟨_, rfl⟩
  rw [← hW0] at hbox
  have HB0 : Hid _ := hbox
  obtain ⟨y0, y1, y2, y3, y4⟩ := hbox.cells
  have xr := cgE x0 hbox.bel
  have zl := lt_blk hbox.blk
  have rl0 : r < W0.heap.size := Nat.lt_of_lt_of_le hrl hbox.bel.size
  clear h hf hbsf hn hk hhs hbox
  go_enter Try.func8, Try.ntmps8
  go_upto_region 1 with fail
  rw [← hW0]
  clear hW0 x0
  go_cut [5, 6] (fun x y wx => x = .int .i64 k ∧ y = .bool hs ∧ Hid (EBox w wx w.heap.size g c fa fl fc any till))
  case first =>
    go_region_held3 (fun w' => w'.cell? ⟨w.heap.size, 0, none⟩ = some (.string g) ∧ w'.cell? ⟨w.heap.size, 1, none⟩ = some (.int .i64 c) ∧ w'.cell? ⟨w.heap.size, 2, none⟩ = some (.slice fa fl fc) ∧ w'.cell? ⟨w.heap.size, 3, none⟩ = some (.bool any) ∧ w'.cell? ⟨w.heap.size, 4, none⟩ = some (.int .i64 till) ∧ w'.cell? ⟨r, 0, none⟩ = some (.slice a n cp))
      (first
        | go_keep
        | assumption)
      (first
        | (go_at_call 18; refine Calls.mono (HBS.out _ HB0.out.drew.bel) ?_; rintro e w1 ⟨rfl, hb1⟩
           have hb3 : Below W0.heap.size W0 w1 := ⟨hb1.os, hb1.tape, hb1.output, hb1.size, hb1.block⟩
           have q0 := cgE y0 hb3
           have q1 := cgE y1 hb3
           have q2 := cgE y2 hb3
           have q3 := cgE y3 hb3
           have q4 := cgE y4 hb3
           have qr := cgE xr hb3
           have H5 : Hid (EBox w w1 w.heap.size g c fa fl fc any till) := HB0.out.below hb3
           clear hb1 hb3))
    all_goals (try go_wp2_with fail)
    all_goals go_meet
    all_goals exact ⟨rfl, rfl, H5⟩
  case rest =>
    obtain ⟨rfl, rfl, H1⟩ := hcut
    obtain hno := HNO.out
    subst hno
    rename World => w1
    clear HB0 HBS y0 y1 y2 y3 y4 xr zl rl0
    obtain ⟨y0, y1, y2, y3, y4⟩ := H1.out.cells
    have zl := lt_blk H1.out.blk
    have xr := (HT.out.below H1.out.bel).cell
    have rl1 := (HT.out.below H1.out.bel).lt
    have hfull : (400 : Int) ≤ (n : Int) := by omega
    clear hroom
    go_wp2_with fail
    go_ret
    exact ⟨rfl, H1.out.bel⟩
theorem OwnT.full {B : Nat} {w0 w : World} {r : Nat} {X : List Ep} (h : OwnT B w0 w r X) (g : ByteArray) (c : Int) (fa : Option Addr) (fl fc : Nat) (any : Bool) (till : Int) (fs : List ByteArray) (hf : StrIn w fa fl fs) (hfl : fl ≤ 100000) (hno : hasK (X.map Ep.key) (g, c) = false) (hroom : 400 ≤ X.length) :
    Calls Try.prog 8 #[.pointer (some ⟨r, 0, none⟩), .agg #[.string g, .int .i64 c, .slice fa fl fc, .bool any, .int .i64 till]] w fun e w' =>
      e = .returned (.iface 42 (.int .i64 4)) ∧ OwnT B w0 w' r X := by
  obtain ⟨v, hv⟩ := h.tab
  refine (put_full B r v X g c fa fl fc any till fs w hv hf hfl h.size hno hroom).mono ?_
  rintro e w' ⟨rfl, hb⟩
  exact ⟨rfl, h.below hb⟩
theorem len_new {X : List Ep} {x : Ep} (h : hasK (X.map Ep.key) x.key = false) : (putE X x).length = X.length + 1 := by
  unfold putE
  rw [h]
  simp
  omega
theorem len_old {X : List Ep} {x : Ep} (h : hasK (X.map Ep.key) x.key = true) : (putE X x).length = X.length := by
  unfold putE
  rw [h]
  simp
def sh : ByteArray := ⟨#[104]⟩
theorem sg_sh : sg ≠ sh := by decide
structure F1 (i : Nat) (X : List Ep) : Prop where
  asc : Asc ltK (X.map Ep.key)
  len : X.length = i
  mem : ∀ x ∈ X, ∃ j : Nat, j < i ∧ x.key = (sg, 2000 + (j : Int)) ∧ x.till = j
  all : ∀ j : Nat, j < i → ∃ x ∈ X, x.key = (sg, 2000 + (j : Int))
theorem F1.nil : F1 0 [] := ⟨List.Pairwise.nil, rfl, (fun x hx => by cases hx), fun j hj => by omega⟩
theorem F1.has {X : List Ep} (h : F1 400 X) : hasK (X.map Ep.key) (sg, 2000) = true := by
  rw [hasK_iff]
  obtain ⟨y, hy, e⟩ := h.all 0 (by omega)
  exact List.mem_map.2 ⟨y, hy, e⟩
theorem F1.no {i : Nat} {X : List Ep} (h : F1 i X) {c : Int} (hc : c < 2000 ∨ 2000 + (i : Int) ≤ c) : hasK (X.map Ep.key) (sg, c) = false := by
  refine hasK_no fun hm => ?_
  obtain ⟨x, hx, e⟩ := List.mem_map.1 hm
  obtain ⟨j, hj, e1, _⟩ := h.mem x hx
  have e2 : c = 2000 + (j : Int) := congrArg Prod.snd (e.symm.trans e1)
  omega
theorem F1.put {i : Nat} {X : List Ep} (h : F1 i X) {x : Ep} (hk : x.key = (sg, 2000 + (i : Int))) (ht : x.till = i) (ha : Asc ltK ((putE X x).map Ep.key)) : F1 (i + 1) (putE X x) := by
  have hn : hasK (X.map Ep.key) x.key = false := by rw [hk]; exact h.no (.inr (by omega))
  refine ⟨ha, by rw [len_new hn, h.len], fun y hy => ?_, fun j hj => ?_⟩
  · rcases (mem_putE h.asc x y).1 hy with rfl | ⟨hy, _⟩
    · exact ⟨i, by omega, hk, ht⟩
    · obtain ⟨j, hj, e⟩ := h.mem y hy
      exact ⟨j, by omega, e⟩
  · by_cases hji : j = i
    · subst hji; exact ⟨x, (mem_putE h.asc x x).2 (.inl rfl), hk⟩
    · obtain ⟨y, hy, e⟩ := h.all j (by omega)
      refine ⟨y, (mem_putE h.asc x y).2 (.inr ⟨hy, fun e2 => ?_⟩), e⟩
      have e3 : (2000 : Int) + (j : Int) = 2000 + (i : Int) := congrArg Prod.snd (e.symm.trans (e2.trans hk))
      omega
/-- What is over once the first one lives on. -/
theorem F1.past {X : List Ep} (h : F1 400 X) {x : Ep} (hk : x.key = (sg, 2000)) (ht : x.till = 500) (ha : Asc ltK ((putE X x).map Ep.key)) (n : Nat) (hn : n ≤ 20) : ((putE X x).filter (pastB n)).length = n - 1 := by
  have hnd : (((putE X x).filter (pastB n)).map Ep.key).Nodup := keys_nodup (asc_filter _ ha)
  have hnd2 : ((List.range (n - 1)).map (fun j : Nat => (sg, (2001 : Int) + (j : Int)))).Nodup := by
    refine List.Pairwise.map (R := (· ≠ ·)) _ (fun a b hab e => ?_) List.nodup_range
    have h2 : (2001 : Int) + (a : Int) = 2001 + (b : Int) := congrArg Prod.snd e
    omega
  have hp : (((putE X x).filter (pastB n)).map Ep.key).Perm ((List.range (n - 1)).map (fun j : Nat => (sg, (2001 : Int) + (j : Int)))) := by
    rw [List.perm_ext_iff_of_nodup hnd hnd2]
    intro k
    constructor
    · intro hk2
      obtain ⟨y, hy, rfl⟩ := List.mem_map.1 hk2
      obtain ⟨hy1, hy2⟩ := List.mem_filter.1 hy
      have hlt : y.till < n := by simpa [pastB] using hy2
      rcases (mem_putE h.asc x y).1 hy1 with rfl | ⟨hy3, hne⟩
      · omega
      · obtain ⟨j, hj, e, e2⟩ := h.mem y hy3
        have : j ≠ 0 := fun e0 => hne (by rw [e, hk, e0]; rfl)
        exact List.mem_map.2 ⟨j - 1, List.mem_range.2 (by omega), by rw [e]; congr 1; omega⟩
    · intro hk2
      obtain ⟨j, hj, rfl⟩ := List.mem_map.1 hk2
      have hj := List.mem_range.1 hj
      obtain ⟨y, hy, e⟩ := h.all (j + 1) (by omega)
      obtain ⟨j2, hj2, e2, e3⟩ := h.mem y hy
      have e4 : (2000 : Int) + ((j + 1 : Nat) : Int) = 2000 + (j2 : Int) := congrArg Prod.snd (e.symm.trans e2)
      refine List.mem_map.2 ⟨y, List.mem_filter.2 ⟨(mem_putE h.asc x y).2 (.inr ⟨hy, fun e5 => ?_⟩), ?_⟩, ?_⟩
      · have e6 : (2000 : Int) + ((j + 1 : Nat) : Int) = 2000 := congrArg Prod.snd (e.symm.trans (e5.trans hk))
        omega
      · simp [pastB]; omega
      · rw [e]; congr 1; omega
  have := hp.length_eq
  simpa using this
structure F2 (i m : Nat) (Y : List Ep) : Prop where
  asc : Asc ltK (Y.map Ep.key)
  len : Y.length = m + i
  mem : ∀ y ∈ Y, y.key.1 = sg ∨ ∃ j : Nat, j < i ∧ y.key = (sh, (j : Int))
theorem F2.no {i m : Nat} {Y : List Ep} (h : F2 i m Y) {c : Int} (hc : (i : Int) ≤ c) : hasK (Y.map Ep.key) (sh, c) = false := by
  refine hasK_no fun hm => ?_
  obtain ⟨y, hy, e⟩ := List.mem_map.1 hm
  rcases h.mem y hy with e1 | ⟨j, hj, e1⟩
  · rw [e] at e1; exact sg_sh e1.symm
  · have e2 : c = (j : Int) := congrArg Prod.snd (e.symm.trans e1)
    omega
theorem F2.put {i m : Nat} {Y : List Ep} (h : F2 i m Y) {x : Ep} (hk : x.key = (sh, (i : Int))) (ha : Asc ltK ((putE Y x).map Ep.key)) : F2 (i + 1) m (putE Y x) := by
  have hn : hasK (Y.map Ep.key) x.key = false := by rw [hk]; exact h.no (Int.le_refl _)
  refine ⟨ha, by rw [len_new hn, h.len]; omega, fun y hy => ?_⟩
  rcases (mem_putE h.asc x y).1 hy with rfl | ⟨hy, _⟩
  · exact .inr ⟨i, by omega, hk⟩
  · rcases h.mem y hy with e | ⟨j, hj, e⟩
    · exact .inl e
    · exact .inr ⟨j, by omega, e⟩
theorem F1.left {X : List Ep} (h : F1 400 X) {x : Ep} (hk : x.key = (sg, 2000)) (ht : x.till = 500) (ha : Asc ltK ((putE X x).map Ep.key)) (n : Nat) (hn : n ≤ 20) : F2 0 (400 - (n - 1)) ((putE X x).filter (fun y => !pastB n y)) := by
  have ho : hasK (X.map Ep.key) x.key = true := by
    rw [hasK_iff, hk]
    obtain ⟨y, hy, e⟩ := h.all 0 (by omega)
    exact List.mem_map.2 ⟨y, hy, e⟩
  have hs : ∀ (p : Ep → Bool) (L : List Ep), (L.filter p).length + (L.filter (fun y => !p y)).length = L.length := fun p L => by
    induction L with
    | nil => rfl
    | cons x L ih => cases q : p x <;> simp [q] <;> omega
  have h1 := hs (pastB n) (putE X x)
  rw [h.past hk ht ha n hn, len_old ho, h.len] at h1
  refine ⟨asc_filter _ ha, by omega, fun y hy => ?_⟩
  rcases (mem_putE h.asc x y).1 (List.mem_filter.1 hy).1 with rfl | ⟨hy, _⟩
  · exact .inl (congrArg Prod.fst hk)
  · obtain ⟨j, _, e, _⟩ := h.mem y hy
    exact .inl (congrArg Prod.fst e)
end Go.Proofs.Ytmnlbheicedloaa
