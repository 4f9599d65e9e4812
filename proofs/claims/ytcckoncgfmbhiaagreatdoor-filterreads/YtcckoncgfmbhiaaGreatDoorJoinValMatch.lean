/- value.Schema.Match: does a filter take an event? -/
import Derived.Test.YtcckoncgfmbhiaaGreatDoorValFilter
import Derived.Test.YtcckoncgfmbhiaaGreatDoorOwnSrc
import Derived.Deep.Upon
import Derived.Laws.AppendOwn
import Derived.WalkKit
import Derived.Test.YtcckoncgfmbhiaaGreatDoorRows
import Derived.Test.YtcckoncgfmbhiaaGreatDoorAid
import Derived.ProofKit
import Derived.OpenShut
import Derived.WalkLawsBesides
import Derived.Test.YtcckoncgfmbhiaaGreatDoorInRow
import Derived.Test.YtcckoncgfmbhiaaGreatDoorOwnSrc5
import Derived.Deep.AppendSrc
import Derived.Deep.RegionHeld3
import Derived.Deep.RegionLaw
import Derived.Deep.AppendLies
import Derived.Test.YtcckoncgfmbhiaaGreatDoorFilPrt2
import Derived.Test.YtcckoncgfmbhiaaGreatDoorValCheck
import Derived.Test.YtcckoncgfmbhiaaGreatDoorFilRdM
import Derived.Test.YtcckoncgfmbhiaaGreatDoorFilTold
import Derived.Laws.BytesArg
import Derived.Laws.IdiomStrings
import Derived.Deep.CutBlock
import Derived.Laws.DeepStrings4
import Derived.Deep.DeepCutAuto
import Derived.KernelRfl
import Derived.OneCell
import Derived.Laws.BitsAllLaws
import Derived.Outline
import Derived.Deep.RegionWith
import Derived.Test.YtcckoncgfmbhiaaGreatDoorFilAwake
import Derived.Test.YtcckoncgfmbhiaaGreatDoorFam
import Derived.Deep.LoopGhost
import Derived.Test.YtcckoncgfmbhiaaGreatDoorTie
import Derived.Test.YtcckoncgfmbhiaaGreatDoorCards
import Derived.LaidLaws
import Derived.LaidHandle
import Derived.LaidSub
import Derived.Lib.LaidTab
import Derived.Stop.Joined
set_option linter.unnecessarySimpa false
namespace Go.Proofs.YtcckoncgfmbhiaaGreatDoor
open Go.ChangeShapes Go.WideShapes Go.ChangeAt Go.RowKit
set_option linter.unusedVariables false

end Go.Proofs.YtcckoncgfmbhiaaGreatDoor

/- wigwaglaw05's schema, and its awake. -/
namespace Go.Proofs.YtcckoncgfmbhiaaGreatDoor
open Go.ChangeShapes Go.WideShapes Go.ChangeAt Go.RowKit
set_option linter.unusedVariables false

theorem blk_cell {w : World} {g j : Nat} {vs : Array Value} {t : TypeId} (h : w.heap[g]? = some (.cells vs t (0, 0))) (hj : j < vs.size) : w.cell? ⟨g, j, none⟩ = some vs[j] := by
  simp [World.cell?, h, hj]
theorem flat_cell {α : Type} (enc : α → List Value) (k : Nat) (hk : ∀ a, (enc a).length = k) (d : α) {w : World} {g : Nat} {t : TypeId} (l : List α) (h : w.heap[g]? = some (.cells (l.flatMap enc).toArray t (0, 0))) (i j : Nat) (hi : i < l.length) (hj : j < k) :
    w.cell? ⟨g, i * k + j, none⟩ = (enc (l.getD i d))[j]? := by
  have hx := flat_get enc k hk d l i j hi hj
  have hlt : i * k + j < (l.flatMap enc).length := by
    rw [flat_len enc k hk]
    have := Nat.mul_le_mul_right k (show i + 1 ≤ l.length by omega)
    rw [Nat.add_mul] at this; omega
  rw [blk_cell h (by simpa using hlt), ← hx]
  simp
theorem AtIn.ofBlock {w : World} {g n c : Nat} {t : TypeId} (az : List At) (hn : n = az.length) (h : w.heap[g]? = some (.cells (az.flatMap At.cells).toArray t (0, 0))) (hc : az.length ≤ c) : AtIn w (.slice (some ⟨g, 0, none⟩) n c) az := by
  refine ⟨_, c, by rw [hn], fun _ => ⟨g, rfl, lt_of_block h, hc, fun j hj => ?_⟩⟩
  have e := fun i hi => flat_cell At.cells 4 At.cells_len at0 az h j i hj hi
  exact ⟨by simpa [At.cells] using e 0 (by omega), by simpa [At.cells] using e 1 (by omega), by simpa [At.cells] using e 2 (by omega), by simpa [At.cells] using e 3 (by omega)⟩
theorem VlIn.ofBlock {w : World} {g n c : Nat} {t : TypeId} (az : List Vl) (hn : n = az.length) (h : w.heap[g]? = some (.cells (az.flatMap Vl.cells).toArray t (0, 0))) (hc : az.length ≤ c) : VlIn w (.slice (some ⟨g, 0, none⟩) n c) az := by
  refine ⟨_, c, by rw [hn], fun _ => ⟨g, rfl, lt_of_block h, hc, fun j hj => ?_⟩⟩
  have e := fun i hi => flat_cell Vl.cells 2 Vl.cells_len vl0 az h j i hj hi
  exact ⟨by simpa [Vl.cells] using e 0 (by omega), by simpa [Vl.cells] using e 1 (by omega)⟩
theorem PdIn.ofBlock {w : World} {g n c : Nat} {t : TypeId} (az : List Pd) (hn : n = az.length) (h : w.heap[g]? = some (.cells (az.flatMap Pd.cells).toArray t (0, 0))) (hc : az.length ≤ c) : PdIn w (.slice (some ⟨g, 0, none⟩) n c) az := by
  refine ⟨_, c, by rw [hn], fun _ => ⟨g, rfl, lt_of_block h, hc, fun j hj => ?_⟩⟩
  have e := fun i hi => flat_cell Pd.cells 5 Pd.cells_len pd0 az h j i hj hi
  exact ⟨by simpa [Pd.cells] using e 0 (by omega), by simpa [Pd.cells] using e 1 (by omega), by simpa [Pd.cells] using e 2 (by omega), by simpa [Pd.cells] using e 3 (by omega), by simpa [Pd.cells] using e 4 (by omega)⟩

abbrev sPrice : ByteArray := ⟨#[112, 114, 105, 99, 101]⟩
abbrev sTag : ByteArray := ⟨#[116, 97, 103]⟩
def sAz : List At := [⟨sPrice, 1, 0, 99⟩, ⟨sTag, 2, 0, 0⟩]
theorem price_ok : NameOk sPrice := ⟨by decide, by decide, by decide +kernel, by decide +kernel, by decide +kernel⟩
theorem tag_ok : NameOk sTag := ⟨by decide, by decide, by decide +kernel, by decide +kernel, by decide +kernel⟩
theorem price_ne_tag : sPrice ≠ sTag := fun h => by
  have : sPrice.data.size = sTag.data.size := by rw [h]
  simp at this
theorem sAz_ok : SchemaOk sAz := by
  refine ⟨by decide, by decide, fun i hi => ?_⟩
  have hi : i < 2 := hi
  rcases (show i = 0 ∨ i = 1 by omega) with rfl | rfl
  · exact ⟨⟨price_ok, .inl ⟨rfl, by decide, by decide, by decide⟩⟩, fun j hj => by omega⟩
  · refine ⟨⟨tag_ok, .inr ⟨rfl, rfl, rfl⟩⟩, fun j hj => ?_⟩
    obtain rfl : j = 0 := by omega
    exact price_ne_tag
theorem s_price : FindAt sAz sPrice 0 := ⟨by decide, rfl, fun j hj => by omega⟩
theorem s_tag : FindAt sAz sTag 1 := by
  refine ⟨by decide, rfl, fun j hj => ?_⟩
  obtain rfl : j = 0 := by omega
  exact price_ne_tag
theorem s_filter1 {p : Pd} {k : Nat} (h : FindAt sAz p.name k) : FilterOk sAz [p] ↔ PredOk (sAz.getD k at0) p := by
  constructor
  · intro hh
    obtain ⟨_, l, h1, h2⟩ := hh.2.2 0 (by simp)
    have h1 : FindAt sAz p.name l := h1
    rw [h.uniq h1]; exact h2
  · intro hh
    refine ⟨by simp, by simp, fun i hi => ?_⟩
    obtain rfl : i = 0 := by simp at hi; omega
    exact ⟨fun j hj => by omega, k, h, hh⟩
theorem s_match1 {p : Pd} {k : Nat} {vs : List Vl} {n : Nat} (h : FindAt sAz p.name k) : MatchOk sAz [p] vs n ↔ PredOk (sAz.getD k at0) p ∧ EventOk sAz vs n ∧ Takes p (vs.getD k vl0) := by
  constructor
  · intro hh
    obtain ⟨l, h1, h2⟩ := hh.2.2 0 (by simp)
    have h1 : FindAt sAz p.name l := h1
    exact ⟨(s_filter1 h).mp hh.1, hh.2.1, by rw [h.uniq h1]; exact h2⟩
  · intro hh
    refine ⟨(s_filter1 h).mpr hh.1, hh.2.1, fun i hi => ?_⟩
    obtain rfl : i = 0 := by simp at hi; omega
    exact ⟨k, h, hh.2.2⟩
theorem s_event {n : Int} {t : ByteArray} (h0 : 0 ≤ n) (h1 : n ≤ 99) (ht : StrOk t) : EventOk sAz [⟨n, ByteArray.empty⟩, ⟨0, t⟩] 0 := by
  refine ⟨rfl, by decide, fun i hi => ?_⟩
  have hi : i < 2 := hi
  rcases (show i = 0 ∨ i = 1 by omega) with rfl | rfl
  · exact .inl ⟨rfl, h0, h1, rfl⟩
  · exact .inr ⟨rfl, ht, rfl⟩
theorem s_range {lo hi n : Int} {t : ByteArray} (h0 : 0 ≤ n) (h1 : n ≤ 99) (ht : StrOk t) (l0 : 0 ≤ lo) (l1 : lo ≤ hi) (l2 : hi ≤ 99) : MatchOk sAz [⟨sPrice, 1, lo, hi, ByteArray.empty⟩] [⟨n, ByteArray.empty⟩, ⟨0, t⟩] 0 ↔ (lo ≤ n ∧ n ≤ hi) := by
  rw [s_match1 (k := 0) s_price]
  exact ⟨fun h => takes_1.mp h.2.2, fun h => ⟨.inl ⟨rfl, rfl, l0, l1, l2, rfl⟩, s_event h0 h1 ht, takes_1.mpr h⟩⟩
theorem s_eq {n : Int} {t u : ByteArray} (h0 : 0 ≤ n) (h1 : n ≤ 99) (ht : StrOk t) (hu : StrOk u) : MatchOk sAz [⟨sTag, 2, 0, 0, t⟩] [⟨n, ByteArray.empty⟩, ⟨0, u⟩] 0 ↔ u = t := by
  rw [s_match1 (k := 1) s_tag]
  exact ⟨fun h => takes_2.mp h.2.2, fun h => ⟨.inr ⟨.inl rfl, rfl, ht, rfl, rfl⟩, s_event h0 h1 hu, takes_2.mpr h⟩⟩
theorem s_pre {n : Int} {t u : ByteArray} (h0 : 0 ≤ n) (h1 : n ≤ 99) (ht : StrOk t) (hu : StrOk u) (hne : t ≠ ByteArray.empty) : MatchOk sAz [⟨sTag, 3, 0, 0, t⟩] [⟨n, ByteArray.empty⟩, ⟨0, u⟩] 0 ↔ t.data.toList <+: u.data.toList := by
  rw [s_match1 (k := 1) s_tag]
  exact ⟨fun h => (takes_3 (by decide) (by decide)).mp h.2.2, fun h => ⟨.inr ⟨.inr ⟨rfl, hne⟩, rfl, ht, rfl, rfl⟩, s_event h0 h1 hu, (takes_3 (by decide) (by decide)).mpr h⟩⟩

theorem new_at {w : World} {o : Obj} {b : Nat} (hb : b = w.heap.size) : (w.alloc o).heap[b]? = some o := by rw [hb]; exact heap_alloc_new w o
theorem cell_at {w : World} {vs : Array Value} {t : TypeId} {b j : Nat} (hb : b = w.heap.size) (hj : j < vs.size) : (w.alloc (.cells vs t)).cell? ⟨b, j, none⟩ = some vs[j] := blk_cell (new_at hb) hj
theorem one_pd (w : World) (p : Pd) (b : Nat) (hb : b = w.heap.size) : PdIn (w.alloc (.cells #[.string p.name, .int .i64 p.op, .int .i64 p.lo, .int .i64 p.hi, .string p.str] 74)) (.slice (some ⟨b, 0, none⟩) 1 1) [p] :=
  PdIn.ofBlock [p] rfl (new_at hb) (by simp)
theorem sz_pd {p : Pd} (h : p.str.size ≤ maxLen) : ∀ i, i < [p].length → ([p].getD i pd0).str.size ≤ maxLen := fun i hi => by
  obtain rfl : i = 0 := by simp at hi; omega
  exact h
theorem sz_vl {n : Int} {t : ByteArray} (h : t.size ≤ maxLen) : ∀ i, i < [(⟨n, ByteArray.empty⟩ : Vl), ⟨0, t⟩].length → ([(⟨n, ByteArray.empty⟩ : Vl), ⟨0, t⟩].getD i vl0).str.size ≤ maxLen := fun i hi => by
  have hi : i < 2 := hi
  rcases (show i = 0 ∨ i = 1 by omega) with rfl | rfl
  · exact Nat.zero_le _
  · exact h

/-- An event of a number and a text lies in a box of its own. -/
structure EvAt (w : World) (b g : Nat) (n : Int) (t : ByteArray) : Prop where
  c0 : w.cell? ⟨b, 0, none⟩ = some (.slice (some ⟨g, 0, none⟩) 2 2)
  c1 : w.cell? ⟨b, 1, none⟩ = some (.string ⟨#[]⟩)
  lt : b < w.heap.size
  vl : VlIn w (.slice (some ⟨g, 0, none⟩) 2 2) [⟨n, ByteArray.empty⟩, ⟨0, t⟩]
theorem EvAt.below {w w' : World} {b g : Nat} {n : Int} {t : ByteArray} (h : EvAt w b g n t) (hb : Below w.heap.size w w') : EvAt w' b g n t :=
  ⟨cell_grown h.c0 hb, cell_grown h.c1 hb, Nat.lt_of_lt_of_le h.lt hb.size, h.vl.below hb⟩
def kAbc : ByteArray := ⟨#[97, 98, 99]⟩
def kB : ByteArray := ⟨#[98]⟩
def kA : ByteArray := ⟨#[97]⟩
def kPs : List Pd := [⟨sPrice, 1, 3, 9, ByteArray.empty⟩, ⟨sTag, 3, 0, 0, kA⟩]
theorem kA_ok : StrOk kA := ⟨by decide +kernel, by decide⟩
theorem kB_ok : StrOk kB := ⟨by decide +kernel, by decide⟩
theorem kAbc_ok : StrOk kAbc := ⟨by decide +kernel, by decide⟩
theorem kA_ne : kA ≠ ByteArray.empty := fun h => by
  have : kA.data.size = ByteArray.empty.data.size := by rw [h]
  simp [kA] at this
theorem kPs_ok : FilterOk sAz kPs := by
  refine ⟨by decide, by decide, fun i hi => ?_⟩
  have hi : i < 2 := hi
  rcases (show i = 0 ∨ i = 1 by omega) with rfl | rfl
  · exact ⟨fun j hj => by omega, 0, s_price, .inl ⟨rfl, rfl, by decide, by decide, by decide, rfl⟩⟩
  · refine ⟨fun j hj => ?_, 1, s_tag, .inr ⟨.inr ⟨rfl, kA_ne⟩, rfl, kA_ok, rfl, rfl⟩⟩
    obtain rfl : j = 0 := by omega
    exact price_ne_tag
theorem k_yes : MatchOk sAz kPs [⟨5, ByteArray.empty⟩, ⟨0, kAbc⟩] 0 := by
  refine ⟨kPs_ok, s_event (by decide) (by decide) kAbc_ok, fun i hi => ?_⟩
  have hi : i < 2 := hi
  rcases (show i = 0 ∨ i = 1 by omega) with rfl | rfl
  · exact ⟨0, s_price, takes_1.mpr ⟨by decide, by decide⟩⟩
  · exact ⟨1, s_tag, (takes_3 (by decide) (by decide)).mpr ⟨[98, 99], rfl⟩⟩
theorem k_no : ¬ MatchOk sAz kPs [⟨5, ByteArray.empty⟩, ⟨0, kB⟩] 0 := fun h => by
  obtain ⟨l, h1, h2⟩ := h.2.2 1 (by decide)
  have h1 : FindAt sAz sTag l := h1
  rw [← s_tag.uniq h1] at h2
  have h3 : kA.data.toList <+: kB.data.toList := (takes_3 (by decide) (by decide)).mp h2
  obtain ⟨t, ht⟩ := h3
  simp [kA, kB] at ht

end Go.Proofs.YtcckoncgfmbhiaaGreatDoor

/- A slice of elements of two cells that the call itself made, appended to out of whatever source (a slice, a string): where what comes of it lies: in the row that was there, or in a new block. No program in sight. -/
namespace Go.Proofs.YtcckoncgfmbhiaaGreatDoor
open Go.RowKit

section
variable {P : Program} (w : World)

/-- What an append to an own row leaves. -/
structure Appended2 (base : Nat) (e : TypeId) (w w' : World) (v v' : Value) (n : Nat) (xs : List Value) : Prop where
  row : w'.ownsRow base e 2 v' n xs
  grown : w.grownBy w' v.ownBlock
  new : ∀ k, v'.ownBlock = some k → v.ownBlock = some k ∨ w.heap.size ≤ k
  shape : ∃ a c, v' = .slice a n c

theorem own_append2 (base : Nat) (t tx ty e : TypeId) (i : TypeInfo) (z : Value) (bytes : Nat) (ht : P.underlying t = some (.slice e)) (hi : P.info? e = some i) (hz : i.zero = some z)
    (hsize : i.size = 2) (hby : i.bytes = bytes) (hzs : z.cells.size = 2)
    (v : Value) (n : Nat) (xs : List Value) (hown : w.ownsRow base e 2 v n xs) (x : Value) (m : Nat) (news : List Value) (hs : Src P 2 tx x m news w)
    (h63 : n + m ≤ maxLen) (hbytes : (n + m) * bytes ≤ 140737488355328) (hbase : base ≤ w.heap.size) :
    ∃ v' w', (Builtin.append_ #[t, tx] ty #[v, x]).run P w = .ok v' w' ∧ Appended2 base e w w' v v' (n + m) (xs ++ news) := by
  rw [← hsize] at hs
  subst hby
  have hsmall : n + m ≤ 9223372036854775807 := by simp only [maxLen] at h63; omega
  have hnl : news.length = m * 2 := by have := hs.newsLen; rw [hsize] at this; exact this
  have hxl : xs.length = n * 2 := hown.1
  have hlen : (xs ++ news).length = (n + m) * 2 := by rw [List.length_append, hxl, hnl]; omega
  have grown : ∀ (old : Nat), old < n + m →
      (w.drew.alloc (.cells ((xs ++ news).toArray ++ Builtin.zeroCells z.cells (grownCap w (n + m) old e - (n + m))) e)).ownsRow base e 2
        (.slice (some ⟨w.heap.size, 0, none⟩) (n + m) (grownCap w (n + m) old e)) (n + m) (xs ++ news) ∧
      ∀ row, w.grownBy (w.drew.alloc (.cells ((xs ++ news).toArray ++ Builtin.zeroCells z.cells (grownCap w (n + m) old e - (n + m))) e)) row := by
    intro old ho
    have hge := grownCap_ge w (n + m) old e
    have hcm : grownCap w (n + m) old e ≤ maxLen := grownCap_le_maxLen w (n + m) old e h63
    refine ⟨⟨hlen, .inr ⟨w.heap.size, _, _, rfl, hbase, heap_alloc_new w.drew _, hge, hcm, ?_, ?_⟩⟩, fun row => ⟨rfl, rfl, rfl, by simp, fun k hk _ => Below.heap_alloc w.drew _ k hk⟩⟩
    · simp only [Array.size_append, List.size_toArray, size_zeroCells, hzs, hlen]; omega
    · rw [Array.toList_append, List.toList_toArray, ← hlen]; exact List.take_left
  rcases hown.2 with ⟨rfl, rfl⟩ | ⟨g, cap, cur, rfl, hbg, hg, hnc, hcm, hcs, htake⟩
  · have hx : xs = [] := List.eq_nil_of_length_eq_zero (by omega)
    subst hx
    by_cases hm : m = 0
    · subst hm
      have hn : news = [] := List.eq_nil_of_length_eq_zero (by omega)
      subst hn
      exact ⟨.slice none 0 0, w, run_append_nothing w t tx ty e i ht hi none 0 0 (Nat.le_refl _) x hs, World.ownsRow_nil w base e 2, ⟨rfl, rfl, rfl, Nat.le_refl _, fun _ _ _ => rfl⟩, fun k hk => .inl hk, ⟨none, 0, rfl⟩⟩
    · have hr := run_append_grow_src (P := P) w t tx ty e i z ht hi hz none 0 0 [] (run_firstCells_none _ _ _ _ _) x m news hs (by omega) (by omega) (growslice_fits (by omega) hbytes)
      have hgr := grown 0 (by omega)
      exact ⟨_, _, hr, hgr.1, hgr.2 _, fun k hk => .inr (by simp [Value.ownBlock] at hk; omega), ⟨_, _, rfl⟩⟩
  · by_cases hroom : n + m ≤ cap
    · have hfit : n * i.size + news.length ≤ cur.size := by rw [hnl, hcs, hsize]; omega
      have hr := room_src (P := P) w t tx ty e i ht hi g n cap cur hg x m news hs hroom hfit
      refine ⟨_, _, hr, ⟨hlen, .inr ⟨g, cap, _, rfl, hbg, setRow_heap w g cur _ e _ hg, hroom, hcm, ?_, ?_⟩⟩, ⟨rfl, rfl, rfl, by simp, fun k _ hk => setRow_other w g k _ (fun e => hk (by simp [Value.ownBlock, e]))⟩, fun k hk => .inl hk, ⟨_, _, rfl⟩⟩
      · simp only [List.size_toArray, List.length_append, List.length_take, List.length_drop, Array.length_toList]
        omega
      · rw [hsize, htake, ← hlen]
        exact List.take_left
    · have holds : ∀ j u, xs[j]? = some u → w.cell? ((⟨g, 0, none⟩ : Addr).add j) = some u := hown.cells (g := g) rfl
      have hf := run_firstCells_some (P := P) w.drew i.size n ⟨g, 0, none⟩ n cap xs (by rw [hsize]; omega) (by simpa using holds)
      have hr := run_append_grow_src (P := P) w t tx ty e i z ht hi hz (some ⟨g, 0, none⟩) n cap xs hf x m news hs (by omega) (by omega) (growslice_fits (by omega) hbytes)
      have hgr := grown cap (by omega)
      exact ⟨_, _, hr, hgr.1, hgr.2 _, fun k hk => .inr (by simp [Value.ownBlock] at hk; omega), ⟨_, _, rfl⟩⟩

theorem wpList_own_append2 {ops : Array Oper} {rest : List Oper} {o : Oper} {a : Act} {Q : Exit → Act → World → Prop} (hgd : o.guard = none) (s x : Operand) (t tx : TypeId)
    (ho : o.op = .call { callee := .builtin .append, args := #[s, x], argTypes := #[t, tx] })
    (base : Nat) (e : TypeId) (i : TypeInfo) (z : Value) (bytes : Nat) (ht : P.underlying t = some (.slice e)) (hi : P.info? e = some i) (hz : i.zero = some z)
    (hsize : i.size = 2) (hby : i.bytes = bytes) (hzs : z.cells.size = 2)
    (v : Value) (n : Nat) (xs : List Value) (hv : a.eval s = v) (hown : w.ownsRow base e 2 v n xs) (xv : Value) (m : Nat) (news : List Value) (hx : a.eval x = xv) (hs : Src P 2 tx xv m news w)
    (h63 : n + m ≤ maxLen) (hbytes : (n + m) * bytes ≤ 140737488355328) (hbase : base ≤ w.heap.size)
    (hK : ∀ v' w', Appended2 base e w w' v v' (n + m) (xs ++ news) → wpList P ops Q rest (a.put o.dst v') w') : wpList P ops Q (o :: rest) a w := by
  refine wpList_plain hgd fun K hK' => ?_
  obtain ⟨v', w', hrun, r'⟩ := own_append2 (P := P) w base t tx o.type e i z bytes ht hi hz hsize hby hzs v n xs hown xv m news hs h63 hbytes hbase
  unfold Oper.wp
  simp [execOp, ho, resolve, invoke, builtin, hv, hx, hrun, Result.andThen]
  exact hK' _ _ (hK v' w' r')

end
end Go.Proofs.YtcckoncgfmbhiaaGreatDoor

/- A slice of elements of four cells that the call itself made, appended to out of whatever source (a slice, a string): where what comes of it lies: in the row that was there, or in a new block. No program in sight. -/
namespace Go.Proofs.YtcckoncgfmbhiaaGreatDoor
open Go.RowKit

section
variable {P : Program} (w : World)

/-- What an append to an own row leaves. -/
structure Appended4 (base : Nat) (e : TypeId) (w w' : World) (v v' : Value) (n : Nat) (xs : List Value) : Prop where
  row : w'.ownsRow base e 4 v' n xs
  grown : w.grownBy w' v.ownBlock
  new : ∀ k, v'.ownBlock = some k → v.ownBlock = some k ∨ w.heap.size ≤ k
  shape : ∃ a c, v' = .slice a n c

theorem own_append4 (base : Nat) (t tx ty e : TypeId) (i : TypeInfo) (z : Value) (bytes : Nat) (ht : P.underlying t = some (.slice e)) (hi : P.info? e = some i) (hz : i.zero = some z)
    (hsize : i.size = 4) (hby : i.bytes = bytes) (hzs : z.cells.size = 4)
    (v : Value) (n : Nat) (xs : List Value) (hown : w.ownsRow base e 4 v n xs) (x : Value) (m : Nat) (news : List Value) (hs : Src P 4 tx x m news w)
    (h63 : n + m ≤ maxLen) (hbytes : (n + m) * bytes ≤ 140737488355328) (hbase : base ≤ w.heap.size) :
    ∃ v' w', (Builtin.append_ #[t, tx] ty #[v, x]).run P w = .ok v' w' ∧ Appended4 base e w w' v v' (n + m) (xs ++ news) := by
  rw [← hsize] at hs
  subst hby
  have hsmall : n + m ≤ 9223372036854775807 := by simp only [maxLen] at h63; omega
  have hnl : news.length = m * 4 := by have := hs.newsLen; rw [hsize] at this; exact this
  have hxl : xs.length = n * 4 := hown.1
  have hlen : (xs ++ news).length = (n + m) * 4 := by rw [List.length_append, hxl, hnl]; omega
  have grown : ∀ (old : Nat), old < n + m →
      (w.drew.alloc (.cells ((xs ++ news).toArray ++ Builtin.zeroCells z.cells (grownCap w (n + m) old e - (n + m))) e)).ownsRow base e 4
        (.slice (some ⟨w.heap.size, 0, none⟩) (n + m) (grownCap w (n + m) old e)) (n + m) (xs ++ news) ∧
      ∀ row, w.grownBy (w.drew.alloc (.cells ((xs ++ news).toArray ++ Builtin.zeroCells z.cells (grownCap w (n + m) old e - (n + m))) e)) row := by
    intro old ho
    have hge := grownCap_ge w (n + m) old e
    have hcm : grownCap w (n + m) old e ≤ maxLen := grownCap_le_maxLen w (n + m) old e h63
    refine ⟨⟨hlen, .inr ⟨w.heap.size, _, _, rfl, hbase, heap_alloc_new w.drew _, hge, hcm, ?_, ?_⟩⟩, fun row => ⟨rfl, rfl, rfl, by simp, fun k hk _ => Below.heap_alloc w.drew _ k hk⟩⟩
    · simp only [Array.size_append, List.size_toArray, size_zeroCells, hzs, hlen]; omega
    · rw [Array.toList_append, List.toList_toArray, ← hlen]; exact List.take_left
  rcases hown.2 with ⟨rfl, rfl⟩ | ⟨g, cap, cur, rfl, hbg, hg, hnc, hcm, hcs, htake⟩
  · have hx : xs = [] := List.eq_nil_of_length_eq_zero (by omega)
    subst hx
    by_cases hm : m = 0
    · subst hm
      have hn : news = [] := List.eq_nil_of_length_eq_zero (by omega)
      subst hn
      exact ⟨.slice none 0 0, w, run_append_nothing w t tx ty e i ht hi none 0 0 (Nat.le_refl _) x hs, World.ownsRow_nil w base e 4, ⟨rfl, rfl, rfl, Nat.le_refl _, fun _ _ _ => rfl⟩, fun k hk => .inl hk, ⟨none, 0, rfl⟩⟩
    · have hr := run_append_grow_src (P := P) w t tx ty e i z ht hi hz none 0 0 [] (run_firstCells_none _ _ _ _ _) x m news hs (by omega) (by omega) (growslice_fits (by omega) hbytes)
      have hgr := grown 0 (by omega)
      exact ⟨_, _, hr, hgr.1, hgr.2 _, fun k hk => .inr (by simp [Value.ownBlock] at hk; omega), ⟨_, _, rfl⟩⟩
  · by_cases hroom : n + m ≤ cap
    · have hfit : n * i.size + news.length ≤ cur.size := by rw [hnl, hcs, hsize]; omega
      have hr := room_src (P := P) w t tx ty e i ht hi g n cap cur hg x m news hs hroom hfit
      refine ⟨_, _, hr, ⟨hlen, .inr ⟨g, cap, _, rfl, hbg, setRow_heap w g cur _ e _ hg, hroom, hcm, ?_, ?_⟩⟩, ⟨rfl, rfl, rfl, by simp, fun k _ hk => setRow_other w g k _ (fun e => hk (by simp [Value.ownBlock, e]))⟩, fun k hk => .inl hk, ⟨_, _, rfl⟩⟩
      · simp only [List.size_toArray, List.length_append, List.length_take, List.length_drop, Array.length_toList]
        omega
      · rw [hsize, htake, ← hlen]
        exact List.take_left
    · have holds : ∀ j u, xs[j]? = some u → w.cell? ((⟨g, 0, none⟩ : Addr).add j) = some u := hown.cells (g := g) rfl
      have hf := run_firstCells_some (P := P) w.drew i.size n ⟨g, 0, none⟩ n cap xs (by rw [hsize]; omega) (by simpa using holds)
      have hr := run_append_grow_src (P := P) w t tx ty e i z ht hi hz (some ⟨g, 0, none⟩) n cap xs hf x m news hs (by omega) (by omega) (growslice_fits (by omega) hbytes)
      have hgr := grown cap (by omega)
      exact ⟨_, _, hr, hgr.1, hgr.2 _, fun k hk => .inr (by simp [Value.ownBlock] at hk; omega), ⟨_, _, rfl⟩⟩

theorem wpList_own_append4 {ops : Array Oper} {rest : List Oper} {o : Oper} {a : Act} {Q : Exit → Act → World → Prop} (hgd : o.guard = none) (s x : Operand) (t tx : TypeId)
    (ho : o.op = .call { callee := .builtin .append, args := #[s, x], argTypes := #[t, tx] })
    (base : Nat) (e : TypeId) (i : TypeInfo) (z : Value) (bytes : Nat) (ht : P.underlying t = some (.slice e)) (hi : P.info? e = some i) (hz : i.zero = some z)
    (hsize : i.size = 4) (hby : i.bytes = bytes) (hzs : z.cells.size = 4)
    (v : Value) (n : Nat) (xs : List Value) (hv : a.eval s = v) (hown : w.ownsRow base e 4 v n xs) (xv : Value) (m : Nat) (news : List Value) (hx : a.eval x = xv) (hs : Src P 4 tx xv m news w)
    (h63 : n + m ≤ maxLen) (hbytes : (n + m) * bytes ≤ 140737488355328) (hbase : base ≤ w.heap.size)
    (hK : ∀ v' w', Appended4 base e w w' v v' (n + m) (xs ++ news) → wpList P ops Q rest (a.put o.dst v') w') : wpList P ops Q (o :: rest) a w := by
  refine wpList_plain hgd fun K hK' => ?_
  obtain ⟨v', w', hrun, r'⟩ := own_append4 (P := P) w base t tx o.type e i z bytes ht hi hz hsize hby hzs v n xs hown xv m news hs h63 hbytes hbase
  unfold Oper.wp
  simp [execOp, ho, resolve, invoke, builtin, hv, hx, hrun, Result.andThen]
  exact hK' _ _ (hK v' w' r')

end
end Go.Proofs.YtcckoncgfmbhiaaGreatDoor

/- What wigwaglaw01.Cut answers: at most n bytes. -/
namespace Go.Proofs.YtcckoncgfmbhiaaGreatDoor
open Go.ChangeShapes Go.WideShapes Go.ChangeAt Go.RowKit
set_option linter.unusedVariables false

theorem cut_any (s : ByteArray) (n : Nat) (w : World) (hs : s.size ≤ maxLen) :
    Calls Tryz.prog 6 #[.string s, .int .i64 n] w fun e w' => e = .returned (.string (cut s n)) ∧ w' = w := by
  unfold maxLen at hs
  by_cases h : n < s.size
  · have H : Hid (cut s n = s.extract 0 n) := (if_pos h : cut s n = s.extract 0 n)
    go_enter Tryz.func6, Tryz.ntmps6
    go_wp2
    go_ret
    exact ⟨by rw [H.out]; rfl, rfl⟩
  · have H : Hid (cut s n = s) := (if_neg h : cut s n = s)
    go_enter Tryz.func6, Tryz.ntmps6
    go_wp2
    go_ret
    exact ⟨by rw [H.out]; rfl, rfl⟩
end Go.Proofs.YtcckoncgfmbhiaaGreatDoor

/- Schemas, events, filters that came in; rows of the call's own as schemas, events, filters. -/
namespace Go.Proofs.YtcckoncgfmbhiaaGreatDoor
open Go.ChangeShapes Go.WideShapes Go.ChangeAt Go.RowKit Go.Deep
set_option linter.unusedVariables false

def At.ok (t : At) : Prop := t.name.size ≤ 9223372036854775807 ∧ i64 t.kind ∧ i64 t.mn ∧ i64 t.mx
def Vl.ok (t : Vl) : Prop := i64 t.num ∧ t.str.size ≤ 9223372036854775807
def Pd.ok (t : Pd) : Prop := t.name.size ≤ 9223372036854775807 ∧ i64 t.op ∧ i64 t.lo ∧ i64 t.hi ∧ t.str.size ≤ 9223372036854775807
theorem cellsPd : Tryz.prog.cellsOf 74 = 5 := by kernel_rfl
theorem cellsAt : Tryz.prog.cellsOf 57 = 4 := by kernel_rfl

section
variable {H : Type} {enc' : TypeId × Value → H} {W : World}
set_option maxRecDepth 100000 in
theorem at_of (n : Nat) (cs : List Value) (x : DataW H × List MemPlace) (h : DataW.trod enc' Tryz.prog W 0 (fun _ => true) true n 57 cs = some x) : ∃ t : At, cs = t.cells ∧ t.ok := by
  obtain ⟨xs, m, _, _, hl, hlen, hf⟩ := DataW.trod_struct Tryz.underlying57 h
  rw [cellsAt] at hl
  match cs, hl with
  | [c0, c1, c2, c3], _ =>
    match xs, hlen with
    | [y0, y1, y2, y3], _ =>
      have f0 := hf 0 _ rfl
      have f1 := hf 1 _ rfl
      have f2 := hf 2 _ rfl
      have f3 := hf 3 _ rfl
      simp [cellsI1, cellsS1] at f0 f1 f2 f3
      obtain ⟨s, e0, _, ws⟩ := DataW.trod_string Tryz.underlying9 f0
      obtain ⟨k, e1, _, wk⟩ := DataW.trod_int Tryz.underlying3 f1
      obtain ⟨n, e2, _, wn⟩ := DataW.trod_int Tryz.underlying3 f2
      obtain ⟨u, e3, _, wu⟩ := DataW.trod_int Tryz.underlying3 f3
      simp at e0 e1 e2 e3
      subst e0 e1 e2 e3
      exact ⟨⟨s, k, n, u⟩, rfl, ws, bounds_i64 wk, bounds_i64 wn, bounds_i64 wu⟩
set_option maxRecDepth 100000 in
theorem pd_of (n : Nat) (cs : List Value) (x : DataW H × List MemPlace) (h : DataW.trod enc' Tryz.prog W 0 (fun _ => true) true n 74 cs = some x) : ∃ t : Pd, cs = t.cells ∧ t.ok := by
  obtain ⟨xs, m, _, _, hl, hlen, hf⟩ := DataW.trod_struct Tryz.underlying74 h
  rw [cellsPd] at hl
  match cs, hl with
  | [c0, c1, c2, c3, c4], _ =>
    match xs, hlen with
    | [y0, y1, y2, y3, y4], _ =>
      have f0 := hf 0 _ rfl
      have f1 := hf 1 _ rfl
      have f2 := hf 2 _ rfl
      have f3 := hf 3 _ rfl
      have f4 := hf 4 _ rfl
      simp [cellsI1, cellsS1] at f0 f1 f2 f3 f4
      obtain ⟨s, e0, _, ws⟩ := DataW.trod_string Tryz.underlying9 f0
      obtain ⟨k, e1, _, wk⟩ := DataW.trod_int Tryz.underlying3 f1
      obtain ⟨n, e2, _, wn⟩ := DataW.trod_int Tryz.underlying3 f2
      obtain ⟨u, e3, _, wu⟩ := DataW.trod_int Tryz.underlying3 f3
      obtain ⟨q, e4, _, wq⟩ := DataW.trod_string Tryz.underlying9 f4
      simp at e0 e1 e2 e3 e4
      subst e0 e1 e2 e3 e4
      exact ⟨⟨s, k, n, u, q⟩, rfl, ws, bounds_i64 wk, bounds_i64 wn, bounds_i64 wu, wq⟩
end

theorem own_cells {α : Type} (enc : α → List Value) (k : Nat) (hk : ∀ a, (enc a).length = k) (d : α) {w : World} {B : Nat} {e : TypeId} {v : Value} {us : List α} (h : w.ownsRow B e k v us.length (us.flatMap enc)) (h0 : 0 < us.length) :
    ∃ g c, v = .slice (some ⟨g, 0, none⟩) us.length c ∧ us.length ≤ c ∧ B ≤ g ∧ g < w.heap.size ∧ ∀ i, i < us.length → ∀ j, j < k → w.cell? ⟨g, i * k + j, none⟩ = (enc (us.getD i d))[j]? := by
  rcases h.2 with ⟨_, h1⟩ | ⟨g, cap, cur, hv, hb, hg, hnc, _⟩
  · omega
  · refine ⟨g, cap, hv, hnc, hb, lt_of_block hg, fun i hi j hj => ?_⟩
    have hx := flat_get enc k hk d us i j hi hj
    have hj' : j < (enc (us.getD i d)).length := by rw [hk]; exact hj
    have e := h.cells (g := g) (by rw [hv]; rfl) (i * k + j) ((enc (us.getD i d))[j]) (by rw [hx, List.getElem?_eq_getElem hj'])
    have ea : (⟨g, 0, none⟩ : Addr).add (i * k + j) = ⟨g, i * k + j, none⟩ := by unfold Addr.add; split <;> simp_all
    rw [ea] at e
    rw [e, List.getElem?_eq_getElem hj']
theorem own_shape {w : World} {B : Nat} {e : TypeId} {k n : Nat} {v : Value} {xs : List Value} (h : w.ownsRow B e k v n xs) : ∃ a c, v = .slice a n c := by
  rcases h.2 with ⟨rfl, h1⟩ | ⟨g, cap, cur, hv, _⟩
  · exact ⟨none, 0, by rw [h1]⟩
  · exact ⟨_, _, hv⟩
theorem AtIn.ofOwn {w : World} {B : Nat} {e : TypeId} {v : Value} {us : List At} (h : w.ownsRow B e 4 v us.length (us.flatMap At.cells)) : AtIn w v us := by
  obtain ⟨a, c, hv⟩ := own_shape h
  refine ⟨a, c, hv, fun h0 => ?_⟩
  obtain ⟨g, c', hv', hc, _, hg, hj⟩ := own_cells At.cells 4 At.cells_len at0 h h0
  rw [hv] at hv'
  simp at hv'
  obtain ⟨rfl, rfl⟩ := hv'
  refine ⟨g, rfl, hg, hc, fun j hjl => ?_⟩
  have e := fun i hi => hj j hjl i hi
  exact ⟨by simpa [At.cells] using e 0 (by omega), by simpa [At.cells] using e 1 (by omega), by simpa [At.cells] using e 2 (by omega), by simpa [At.cells] using e 3 (by omega)⟩
theorem VlIn.ofOwn {w : World} {B : Nat} {e : TypeId} {v : Value} {us : List Vl} (h : w.ownsRow B e 2 v us.length (us.flatMap Vl.cells)) : VlIn w v us := by
  obtain ⟨a, c, hv⟩ := own_shape h
  refine ⟨a, c, hv, fun h0 => ?_⟩
  obtain ⟨g, c', hv', hc, _, hg, hj⟩ := own_cells Vl.cells 2 Vl.cells_len vl0 h h0
  rw [hv] at hv'
  simp at hv'
  obtain ⟨rfl, rfl⟩ := hv'
  refine ⟨g, rfl, hg, hc, fun j hjl => ?_⟩
  have e := fun i hi => hj j hjl i hi
  exact ⟨by simpa [Vl.cells] using e 0 (by omega), by simpa [Vl.cells] using e 1 (by omega)⟩
theorem PdIn.ofOwn {w : World} {B : Nat} {e : TypeId} {v : Value} {us : List Pd} (h : w.ownsRow B e 5 v us.length (us.flatMap Pd.cells)) : PdIn w v us := by
  obtain ⟨a, c, hv⟩ := own_shape h
  refine ⟨a, c, hv, fun h0 => ?_⟩
  obtain ⟨g, c', hv', hc, _, hg, hj⟩ := own_cells Pd.cells 5 Pd.cells_len pd0 h h0
  rw [hv] at hv'
  simp at hv'
  obtain ⟨rfl, rfl⟩ := hv'
  refine ⟨g, rfl, hg, hc, fun j hjl => ?_⟩
  have e := fun i hi => hj j hjl i hi
  exact ⟨by simpa [Pd.cells] using e 0 (by omega), by simpa [Pd.cells] using e 1 (by omega), by simpa [Pd.cells] using e 2 (by omega), by simpa [Pd.cells] using e 3 (by omega), by simpa [Pd.cells] using e 4 (by omega)⟩

theorem own_carry {B : Nat} {w w' : World} {e : TypeId} {k n : Nat} {v : Value} {xs : List Value} (h : w.ownsRow B e k v n xs) (hb : Below w.heap.size w w') : w'.ownsRow B e k v n xs := by
  refine ⟨h.1, ?_⟩
  rcases h.2 with h1 | ⟨g', cap, cur, hv, hbg, hg, hr⟩
  · exact .inl h1
  · exact .inr ⟨g', cap, cur, hv, hbg, (hb.block g' (lt_of_block hg)).trans hg, hr⟩
theorem own_keep {B : Nat} {w w' : World} {e : TypeId} {k n : Nat} {v : Value} {xs : List Value} (h : w.ownsRow B e k v n xs) (row : Option Nat) (hg : w.grownBy w' row) (hne : ∀ b, v.ownBlock = some b → row ≠ some b) : w'.ownsRow B e k v n xs := by
  refine h.kept hg ?_
  cases hv : v.ownBlock with
  | none => exact .inl rfl
  | some b => exact .inr fun e => hne b hv e.symm

/-- Two rows of the call's own, apart from one another; nothing of before has turned. -/
structure Rows2 (B : Nat) (w0 w : World) (e1 e2 : TypeId) (k : Nat) (v1 v2 : Value) (n : Nat) (xs1 xs2 : List Value) : Prop where
  r1 : w.ownsRow B e1 k v1 n xs1
  r2 : w.ownsRow B e2 k v2 n xs2
  ap : ∀ b, v1.ownBlock = some b → v2.ownBlock ≠ some b
  bel : Below B w0 w
  le : B ≤ w.heap.size
theorem Rows2.carry {B : Nat} {w0 w w' : World} {e1 e2 : TypeId} {k n : Nat} {v1 v2 : Value} {xs1 xs2 : List Value} (h : Rows2 B w0 w e1 e2 k v1 v2 n xs1 xs2) (hb : Below w.heap.size w w') : Rows2 B w0 w' e1 e2 k v1 v2 n xs1 xs2 :=
  ⟨own_carry h.r1 hb, own_carry h.r2 hb, h.ap, h.bel.trans (hb.mono h.le), Nat.le_trans h.le hb.size⟩
theorem grown_below {B : Nat} {w0 w w' : World} {e : TypeId} {k n : Nat} {v : Value} {xs : List Value} (hb : Below B w0 w) (hle : B ≤ w.heap.size) (h : w.ownsRow B e k v n xs) (hg : w.grownBy w' v.ownBlock) : Below B w0 w' :=
  hb.trans ⟨hg.os, hg.tape, hg.output, hg.size, fun j hj => hg.block j (by omega) (fun e => by have := (h.lt j e.symm).1; omega)⟩
/-- Appended to the first row, then to the second one. -/
theorem Rows2.step {B : Nat} {w0 w W1 W2 W3 W4 : World} {e1 e2 : TypeId} {k n m : Nat} {v1 v2 v1' v2' : Value} {xs1 xs2 ys1 ys2 : List Value} (h : Rows2 B w0 w e1 e2 k v1 v2 n xs1 xs2) (b1 : Below w.heap.size w W1)
    (r1 : W2.ownsRow B e1 k v1' m ys1) (g1 : W1.grownBy W2 v1.ownBlock) (n1 : ∀ j, v1'.ownBlock = some j → v1.ownBlock = some j ∨ W1.heap.size ≤ j)
    (b2 : Below W2.heap.size W2 W3) (r2 : W4.ownsRow B e2 k v2' m ys2) (g2 : W3.grownBy W4 v2.ownBlock) (n2 : ∀ j, v2'.ownBlock = some j → v2.ownBlock = some j ∨ W3.heap.size ≤ j) :
    Rows2 B w0 W4 e1 e2 k v1' v2' m ys1 ys2 := by
  have h1 := h.carry b1
  have q2 : W2.ownsRow B e2 k v2 n xs2 := own_keep h1.r2 _ g1 (fun b hb e => h1.ap b e hb)
  have q3 : W3.ownsRow B e2 k v2 n xs2 := own_carry q2 b2
  have l2 : ∀ j, v2.ownBlock = some j → j < W1.heap.size := fun j hj => (h1.r2.lt j hj).2
  have ap1 : ∀ b, v1'.ownBlock = some b → v2.ownBlock ≠ some b := fun b hb e => by
    rcases n1 b hb with q | q
    · exact h.ap b q e
    · have := l2 b e; omega
  have r1' : W3.ownsRow B e1 k v1' m ys1 := own_carry r1 b2
  have r1'' : W4.ownsRow B e1 k v1' m ys1 := own_keep r1' _ g2 (fun b hb e => ap1 b hb e)
  have bb2 := grown_below h1.bel h1.le h1.r1 g1
  have le2 : B ≤ W2.heap.size := Nat.le_trans h1.le g1.size
  have bb3 := bb2.trans (b2.mono le2)
  have le3 : B ≤ W3.heap.size := Nat.le_trans le2 b2.size
  refine ⟨r1'', r2, fun b hb e => ?_, grown_below bb3 le3 q3 g2, Nat.le_trans le3 g2.size⟩
  rcases n2 b e with q | q
  · exact ap1 b hb q
  · have := (r1'.lt b hb).2; omega
/-- The second row, where the first one was appended to. -/
theorem Rows2.mid {B : Nat} {w0 w W1 W2 : World} {e1 e2 : TypeId} {k n : Nat} {v1 v2 : Value} {xs1 xs2 : List Value} (h : Rows2 B w0 w e1 e2 k v1 v2 n xs1 xs2) (b1 : Below w.heap.size w W1) (g1 : W1.grownBy W2 v1.ownBlock) : W2.ownsRow B e2 k v2 n xs2 :=
  own_keep (h.carry b1).r2 _ g1 (fun b hb e => h.ap b e hb)
/-- A block that is new behind the two rows stays as it is. -/
theorem Rows2.box {B : Nat} {w0 w W1 W2 : World} {e1 e2 : TypeId} {k n : Nat} {v1 v2 : Value} {xs1 xs2 : List Value} (h : Rows2 B w0 w e1 e2 k v1 v2 n xs1 xs2) (b : Nat) (hb : w.heap.size ≤ b) (hb1 : b < W1.heap.size) (g1 : W1.grownBy W2 v1.ownBlock) : W2.heap[b]? = W1.heap[b]? :=
  g1.block b hb1 (fun e => by have := (h.r1.lt b e.symm).2; omega)
end Go.Proofs.YtcckoncgfmbhiaaGreatDoor

/- wigwaglaw05.Attrs: a schema of at most six attributes, and the same as the document's. -/
namespace Go.Proofs.YtcckoncgfmbhiaaGreatDoor
open Go.ChangeShapes Go.WideShapes Go.ChangeAt Go.RowKit
set_option linter.unusedVariables false

def cutA (a : At) : At := ⟨cut a.name 20, a.kind, a.mn, a.mx⟩
theorem Tryz.infoAt : (Tryz.prog.info? 57).map (fun i => (i.zero, i.size, i.bytes)) = some (some (.agg #[.string ByteArray.empty, .int .i64 0, .int .i64 0, .int .i64 0]), 4, 40) := by kernel_rfl
theorem Tryz.infoRAt : (Tryz.prog.info? 58).map (fun i => (i.zero, i.size, i.bytes)) = some (some (.agg #[.string ByteArray.empty, .int .i64 0, .int .i64 0, .int .i64 0]), 4, 40) := by kernel_rfl

theorem src_At (w : World) (q : At) (x : Nat) (hx : x = w.heap.size) :
    Src Tryz.prog 4 23 (.slice (some ⟨x, 0, none⟩) 1 1) 1 q.cells (w.alloc (.cells #[.string q.name, .int .i64 q.kind, .int .i64 q.mn, .int .i64 q.mx] 57)) :=
  Src.ofSlice _ Tryz.underlying23 _ 1 1 _ rfl (fun j u hu => by
    subst hx
    have := World.news_of_block (cs := #[.string q.name, .int .i64 q.kind, .int .i64 q.mn, .int .i64 q.mx]) (t := 57) (fr := (0, 0)) (heap_alloc_new w _) j u (by simpa [At.cells] using hu)
    exact this) (by simp [At.cells, Value.oneCell'])
theorem src_RAt (w : World) (q : At) (x : Nat) (hx : x = w.heap.size) :
    Src Tryz.prog 4 24 (.slice (some ⟨x, 0, none⟩) 1 1) 1 q.cells (w.alloc (.cells #[.string q.name, .int .i64 q.kind, .int .i64 q.mn, .int .i64 q.mx] 58)) :=
  Src.ofSlice _ Tryz.underlying24 _ 1 1 _ rfl (fun j u hu => by
    subst hx
    have := World.news_of_block (cs := #[.string q.name, .int .i64 q.kind, .int .i64 q.mn, .int .i64 q.mx]) (t := 58) (fr := (0, 0)) (heap_alloc_new w _) j u (by simpa [At.cells] using hu)
    exact this) (by simp [At.cells, Value.oneCell'])
theorem cutA_snoc (t : List At) (i : Nat) (hi : i < t.length) : ((t.take (i + 1)).map cutA).flatMap At.cells = ((t.take i).map cutA).flatMap At.cells ++ (cutA (t.getD i at0)).cells := by
  rw [List.take_succ_eq_append_getElem hi, List.map_append, List.flatMap_append]
  simp [hi]
theorem InRow.get {α : Type} {k : Nat} {enc : α → List Value} {ok : α → Prop} {d : α} {w : World} {a : Option Addr} {len : Nat} {xs : List α} (h : InRow k enc ok d w a len xs) (i : Nat) (hi : i < len) :
    ∃ b o, a = some ⟨b, o, none⟩ ∧ b < w.heap.size ∧ ok (xs.getD i d) ∧ ∀ j, j < k → w.cell? ⟨b, o + i * k + j, none⟩ = (enc (xs.getD i d))[j]? := by
  rcases h.2.2 with h0 | ⟨b, o, ha, hb, hc⟩
  · omega
  · exact ⟨b, o, ha, hb, (hc i hi).1, (hc i hi).2⟩

set_option maxRecDepth 100000 in
set_option maxHeartbeats 1000000 in
theorem attrs_any (a : Option Addr) (len cap : Nat) (t : List At) (w : World) (h : InRow 4 At.cells At.ok at0 w a len t) :
    Calls Tryz.prog 5 #[.slice a len cap] w fun e w' => ∃ v1 v2, e = .returned (.tuple #[v1, v2]) ∧
      Rows2 w.heap.size w w' 57 58 4 v1 v2 ((t.take 6).map cutA).length (((t.take 6).map cutA).flatMap At.cells) (((t.take 6).map cutA).flatMap At.cells) := by
  obtain ⟨i0, hi, hz0, hz1, hz2⟩ := info_parts Tryz.infoAt
  obtain ⟨i1, hj, hy0, hy1, hy2⟩ := info_parts Tryz.infoRAt
  have hlen := h.2.1
  have HL : Hid (t.length = len) := h.1
  have HI : Hid (InRow 4 At.cells At.ok at0 w a len t) := h
  have HS : Hid (Rows2 w.heap.size w ((w.alloc (.cells #[] 57)).alloc (.cells #[] 58)) 57 58 4 (.slice (some ⟨w.heap.size, 0, none⟩) 0 0) (.slice (some ⟨w.heap.size + 1, 0, none⟩) 0 0) 0 [] []) := by
    refine ⟨(World.ownsRow_made w #[] 0 (Nat.le_refl _) (Nat.zero_le _) rfl).alloc _, ?_, fun b hb e => ?_, below2 _ _ _, by simp; omega⟩
    · have := World.ownsRow_made (base := w.heap.size) (e := 58) (size := 4) (w.alloc (.cells #[] 57)) #[] 0 (by simp) (Nat.zero_le _) rfl
      simpa using this
    · simp [Value.ownBlock] at hb e; omega
  clear h
  go_enter Tryz.func5, Tryz.ntmps5
  go_wp2
  go_loopg [4, 5, 6] 6 (fun kx s4 s5 s6 wr => ∃ i : Nat, s6 = .int .i64 i ∧ i ≤ len ∧ i ≤ 6 ∧ kx = 6 - i ∧ (∃ a1 c1, s4 = .slice a1 i c1) ∧ (∃ a2 c2, s5 = .slice a2 i c2) ∧ Hid (Rows2 w.heap.size w wr 57 58 4 s4 s5 i (((t.take i).map cutA).flatMap At.cells) (((t.take i).map cutA).flatMap At.cells)))
  case atStart => exact ⟨0, rfl, Nat.zero_le _, Nat.zero_le _, rfl, ⟨_, _, rfl⟩, ⟨_, _, rfl⟩, by simpa using HS⟩
  case round =>
    obtain ⟨i, rfl, h1, h2, rfl, ⟨a1, c1, rfl⟩, ⟨a2, c2, rfl⟩, R⟩ := hrel
    by_cases hl : i < len
    · by_cases h6 : i < 6
      · obtain ⟨b, o, rfl, hb, hok, hcell⟩ := HI.out.get i hl
        have SN : Hid (((t.take (i + 1)).map cutA).flatMap At.cells = ((t.take i).map cutA).flatMap At.cells ++ (cutA (t.getD i at0)).cells) := cutA_snoc t i (by have := HL.out; omega)
        have hnm : (t.getD i at0).name.size ≤ maxLen := hok.1
        generalize t.getD i at0 = x at hcell hnm SN
        have hbw := R.out.bel
        have hle := R.out.le
        have e : ∀ j, wr.cell? ⟨b, j, none⟩ = w.cell? ⟨b, j, none⟩ := fun j => hbw.cell (p := ⟨b, j, none⟩) hb
        have k0 := hcell 0 (by omega)
        have k1 := hcell 1 (by omega)
        have k2 := hcell 2 (by omega)
        have k3 := hcell 3 (by omega)
        simp only [At.cells, ← e] at k0 k1 k2 k3
        simp at k0 k1 k2 k3
        have hlt : b < wr.heap.size := Nat.lt_of_lt_of_le hb hle
        clear hcell e hok hbw
        go_wp2_with fail
        refine (cut_any x.name 20 _ hnm).mono ?_
        rintro e w' ⟨rfl, hw'⟩
        subst w'
        go_wp2_with (at_builtin; refine wpList_own_append4 _ rfl _ _ 23 23 rfl w.heap.size 57 i0 _ 40 Tryz.underlying23 hi hz0 hz1 hz2 rfl _ _ _ rfl (own_carry R.out.r1 (below2 _ _ _)) _ 1 (cutA x).cells rfl (src_At (wr.alloc _) (cutA x) (wr.heap.size + 1) (by simp)) ?c3 ?c4 ?c5 ?_)
        case c3 => unfold maxLen; omega
        case c4 => omega
        case c5 => simp; omega
        intro v1' W2 ha
        have hbox := R.out.box (wr.heap.size) (Nat.le_refl _) (by simp; omega) ha.grown
        rw [Below.heap_alloc _ _ _ (by simp), heap_alloc_new] at hbox
        have m0 := blk_cell (j := 0) hbox (by simp)
        have m1 := blk_cell (j := 1) hbox (by simp)
        have m2 := blk_cell (j := 2) hbox (by simp)
        have m3 := blk_cell (j := 3) hbox (by simp)
        simp at m0 m1 m2 m3
        have mlt := lt_of_block hbox
        have Q2 : Hid (W2.ownsRow w.heap.size 58 4 (.slice a2 i c2) i (((t.take i).map cutA).flatMap At.cells)) := R.out.mid (below2 _ _ _) ha.grown
        have L2 : Hid (w.heap.size ≤ W2.heap.size) := Nat.le_trans hle (Nat.le_trans (below2 wr _ _).size ha.grown.size)
        obtain ⟨a1', c1', hv1⟩ := ha.shape
        subst hv1
        have HA : Hid _ := ha
        clear ha hbox k0 k1 k2 k3
        go_wp2_with (at_builtin; refine wpList_own_append4 _ rfl _ _ 24 24 rfl w.heap.size 58 i1 _ 40 Tryz.underlying24 hj hy0 hy1 hy2 rfl _ _ _ rfl (own_carry Q2.out (below1 _ _)) _ 1 (cutA x).cells rfl (src_RAt W2 (cutA x) _ rfl) ?d3 ?d4 ?d5 ?_)
        case d3 => unfold maxLen; omega
        case d4 => omega
        case d5 => have := L2.out; simp; omega
        intro v2' W4 ha2
        have hst := R.out.step (below2 _ _ _) HA.out.row HA.out.grown HA.out.new (below1 _ _) ha2.row ha2.grown ha2.new
        obtain ⟨a2', c2', hv2⟩ := ha2.shape
        subst hv2
        have HST : Hid (Rows2 w.heap.size w W4 57 58 4 (.slice a1' (i + 1) c1') (.slice a2' (i + 1) c2') (i + 1) (((t.take (i + 1)).map cutA).flatMap At.cells) (((t.take (i + 1)).map cutA).flatMap At.cells)) := by
          show Rows2 _ _ _ _ _ _ _ _ _ _ _
          rw [SN.out, List.map_take]; exact hst
        clear hst ha2 HA Q2 L2 m0 m1 m2 m3 mlt
        go_wp2
        go_roundg (6 - (i + 1))
        case measure => omega
        case rel => exact ⟨i + 1, by go_num, by omega, by omega, rfl, ⟨_, _, rfl⟩, ⟨_, _, rfl⟩, HST⟩
      · obtain rfl : i = 6 := by omega
        have HE : Hid (((t.take 6).map cutA).length = 6) := (by have := HL.out; simp; omega : ((t.take 6).map cutA).length = 6)
        go_wp2
        go_ret2
        exact ⟨_, _, rfl, by rw [HE.out]; exact R.out⟩
    · obtain rfl : i = len := by omega
      have HE : Hid (t.take i = t.take 6 ∧ ((t.take 6).map cutA).length = i) := (by
        have := HL.out
        refine ⟨?_, by simp; omega⟩
        rw [List.take_of_length_le (by omega), List.take_of_length_le (by omega)] : t.take i = t.take 6 ∧ ((t.take 6).map cutA).length = i)
      go_wp2
      go_ret2
      exact ⟨_, _, rfl, by rw [HE.out.2, ← HE.out.1]; exact R.out⟩
end Go.Proofs.YtcckoncgfmbhiaaGreatDoor

/- wigwaglaw05.Preds: a filter of at most six predicates, and the same as the document's. -/
namespace Go.Proofs.YtcckoncgfmbhiaaGreatDoor
open Go.ChangeShapes Go.WideShapes Go.ChangeAt Go.RowKit
set_option linter.unusedVariables false

def cutP (a : Pd) : Pd := ⟨cut a.name 20, a.op, a.lo, a.hi, cut a.str 50⟩
theorem Tryz.infoPdv : (Tryz.prog.info? 74).map (fun i => (i.zero, i.size, i.bytes)) = some (some (.agg #[.string ByteArray.empty, .int .i64 0, .int .i64 0, .int .i64 0, .string ByteArray.empty]), 5, 56) := by kernel_rfl
theorem Tryz.infoRPd : (Tryz.prog.info? 66).map (fun i => (i.zero, i.size, i.bytes)) = some (some (.agg #[.string ByteArray.empty, .int .i64 0, .int .i64 0, .int .i64 0, .string ByteArray.empty]), 5, 56) := by kernel_rfl

theorem src_Pd (w : World) (q : Pd) (x : Nat) (hx : x = w.heap.size) :
    Src Tryz.prog 5 29 (.slice (some ⟨x, 0, none⟩) 1 1) 1 q.cells (w.alloc (.cells #[.string q.name, .int .i64 q.op, .int .i64 q.lo, .int .i64 q.hi, .string q.str] 74)) :=
  Src.ofSlice _ Tryz.underlying29 _ 1 1 _ rfl (fun j u hu => by
    subst hx
    have := World.news_of_block (cs := #[.string q.name, .int .i64 q.op, .int .i64 q.lo, .int .i64 q.hi, .string q.str]) (t := 74) (fr := (0, 0)) (heap_alloc_new w _) j u (by simpa [Pd.cells] using hu)
    exact this) (by simp [Pd.cells, Value.oneCell'])
theorem src_RPd (w : World) (q : Pd) (x : Nat) (hx : x = w.heap.size) :
    Src Tryz.prog 5 34 (.slice (some ⟨x, 0, none⟩) 1 1) 1 q.cells (w.alloc (.cells #[.string q.name, .int .i64 q.op, .int .i64 q.lo, .int .i64 q.hi, .string q.str] 66)) :=
  Src.ofSlice _ Tryz.underlying34 _ 1 1 _ rfl (fun j u hu => by
    subst hx
    have := World.news_of_block (cs := #[.string q.name, .int .i64 q.op, .int .i64 q.lo, .int .i64 q.hi, .string q.str]) (t := 66) (fr := (0, 0)) (heap_alloc_new w _) j u (by simpa [Pd.cells] using hu)
    exact this) (by simp [Pd.cells, Value.oneCell'])
theorem cutP_snoc (t : List Pd) (i : Nat) (hi : i < t.length) : ((t.take (i + 1)).map cutP).flatMap Pd.cells = ((t.take i).map cutP).flatMap Pd.cells ++ (cutP (t.getD i pd0)).cells := by
  rw [List.take_succ_eq_append_getElem hi, List.map_append, List.flatMap_append]
  simp [hi]
set_option maxRecDepth 100000 in
set_option maxHeartbeats 1000000 in
theorem preds_any (a : Option Addr) (len cap : Nat) (t : List Pd) (w : World) (h : InRow 5 Pd.cells Pd.ok pd0 w a len t) :
    Calls Tryz.prog 20 #[.slice a len cap] w fun e w' => ∃ v1 v2, e = .returned (.tuple #[v1, v2]) ∧
      Rows2 w.heap.size w w' 74 66 5 v1 v2 ((t.take 6).map cutP).length (((t.take 6).map cutP).flatMap Pd.cells) (((t.take 6).map cutP).flatMap Pd.cells) := by
  obtain ⟨i0, hi, hz0, hz1, hz2⟩ := info_parts Tryz.infoPdv
  obtain ⟨i1, hj, hy0, hy1, hy2⟩ := info_parts Tryz.infoRPd
  have hlen := h.2.1
  have HL : Hid (t.length = len) := h.1
  have HI : Hid (InRow 5 Pd.cells Pd.ok pd0 w a len t) := h
  have HS : Hid (Rows2 w.heap.size w ((w.alloc (.cells #[] 74)).alloc (.cells #[] 66)) 74 66 5 (.slice (some ⟨w.heap.size, 0, none⟩) 0 0) (.slice (some ⟨w.heap.size + 1, 0, none⟩) 0 0) 0 [] []) := by
    refine ⟨(World.ownsRow_made w #[] 0 (Nat.le_refl _) (Nat.zero_le _) rfl).alloc _, ?_, fun b hb e => ?_, below2 _ _ _, by simp; omega⟩
    · have := World.ownsRow_made (base := w.heap.size) (e := 66) (size := 5) (w.alloc (.cells #[] 74)) #[] 0 (by simp) (Nat.zero_le _) rfl
      simpa using this
    · simp [Value.ownBlock] at hb e; omega
  clear h
  go_enter Tryz.func20, Tryz.ntmps20
  go_wp2
  go_loopg [4, 5, 6] 6 (fun kx s4 s5 s6 wr => ∃ i : Nat, s6 = .int .i64 i ∧ i ≤ len ∧ i ≤ 6 ∧ kx = 6 - i ∧ (∃ a1 c1, s4 = .slice a1 i c1) ∧ (∃ a2 c2, s5 = .slice a2 i c2) ∧ Hid (Rows2 w.heap.size w wr 74 66 5 s4 s5 i (((t.take i).map cutP).flatMap Pd.cells) (((t.take i).map cutP).flatMap Pd.cells)))
  case atStart => exact ⟨0, rfl, Nat.zero_le _, Nat.zero_le _, rfl, ⟨_, _, rfl⟩, ⟨_, _, rfl⟩, by simpa using HS⟩
  case round =>
    obtain ⟨i, rfl, h1, h2, rfl, ⟨a1, c1, rfl⟩, ⟨a2, c2, rfl⟩, R⟩ := hrel
    by_cases hl : i < len
    · by_cases h6 : i < 6
      · obtain ⟨b, o, rfl, hb, hok, hcell⟩ := HI.out.get i hl
        have SN : Hid (((t.take (i + 1)).map cutP).flatMap Pd.cells = ((t.take i).map cutP).flatMap Pd.cells ++ (cutP (t.getD i pd0)).cells) := cutP_snoc t i (by have := HL.out; omega)
        have hnm : (t.getD i pd0).name.size ≤ maxLen := hok.1
        have hnq : (t.getD i pd0).str.size ≤ maxLen := hok.2.2.2.2
        generalize t.getD i pd0 = x at hcell hnm hnq SN
        have hbw := R.out.bel
        have hle := R.out.le
        have e : ∀ j, wr.cell? ⟨b, j, none⟩ = w.cell? ⟨b, j, none⟩ := fun j => hbw.cell (p := ⟨b, j, none⟩) hb
        have k0 := hcell 0 (by omega)
        have k1 := hcell 1 (by omega)
        have k2 := hcell 2 (by omega)
        have k3 := hcell 3 (by omega)
        have k4 := hcell 4 (by omega)
        simp only [Pd.cells, ← e] at k0 k1 k2 k3 k4
        simp at k0 k1 k2 k3 k4
        have hlt : b < wr.heap.size := Nat.lt_of_lt_of_le hb hle
        clear hcell e hok hbw
        go_wp2_with fail
        refine (cut_any x.name 20 _ hnm).mono ?_
        rintro e w' ⟨rfl, hw'⟩
        subst w'
        go_wp2_with fail
        refine (cut_any x.str 50 _ hnq).mono ?_
        rintro e w' ⟨rfl, hw'⟩
        subst w'
        go_wp2_with (at_builtin; refine wpList_own_append5 _ rfl _ _ 29 29 rfl w.heap.size 74 i0 _ 56 Tryz.underlying29 hi hz0 hz1 hz2 rfl _ _ _ rfl (own_carry R.out.r1 (below2 _ _ _)) _ 1 (cutP x).cells rfl (src_Pd (wr.alloc _) (cutP x) (wr.heap.size + 1) (by simp)) ?c3 ?c4 ?c5 ?_)
        case c3 => unfold maxLen; omega
        case c4 => omega
        case c5 => simp; omega
        intro v1' W2 ha
        have hbox := R.out.box (wr.heap.size) (Nat.le_refl _) (by simp; omega) ha.grown
        rw [Below.heap_alloc _ _ _ (by simp), heap_alloc_new] at hbox
        have m0 := blk_cell (j := 0) hbox (by simp)
        have m1 := blk_cell (j := 1) hbox (by simp)
        have m2 := blk_cell (j := 2) hbox (by simp)
        have m3 := blk_cell (j := 3) hbox (by simp)
        have m4 := blk_cell (j := 4) hbox (by simp)
        simp at m0 m1 m2 m3 m4
        have mlt := lt_of_block hbox
        have Q2 : Hid (W2.ownsRow w.heap.size 66 5 (.slice a2 i c2) i (((t.take i).map cutP).flatMap Pd.cells)) := R.out.mid (below2 _ _ _) ha.grown
        have L2 : Hid (w.heap.size ≤ W2.heap.size) := Nat.le_trans hle (Nat.le_trans (below2 wr _ _).size ha.grown.size)
        obtain ⟨a1', c1', hv1⟩ := ha.shape
        subst hv1
        have HA : Hid _ := ha
        clear ha hbox k0 k1 k2 k3 k4
        go_wp2_with (at_builtin; refine wpList_own_append5 _ rfl _ _ 34 34 rfl w.heap.size 66 i1 _ 56 Tryz.underlying34 hj hy0 hy1 hy2 rfl _ _ _ rfl (own_carry Q2.out (below1 _ _)) _ 1 (cutP x).cells rfl (src_RPd W2 (cutP x) _ rfl) ?d3 ?d4 ?d5 ?_)
        case d3 => unfold maxLen; omega
        case d4 => omega
        case d5 => have := L2.out; simp; omega
        intro v2' W4 ha2
        have hst := R.out.step (below2 _ _ _) HA.out.row HA.out.grown HA.out.new (below1 _ _) ha2.row ha2.grown ha2.new
        obtain ⟨a2', c2', hv2⟩ := ha2.shape
        subst hv2
        have HST : Hid (Rows2 w.heap.size w W4 74 66 5 (.slice a1' (i + 1) c1') (.slice a2' (i + 1) c2') (i + 1) (((t.take (i + 1)).map cutP).flatMap Pd.cells) (((t.take (i + 1)).map cutP).flatMap Pd.cells)) := by
          show Rows2 _ _ _ _ _ _ _ _ _ _ _
          rw [SN.out, List.map_take]; exact hst
        clear hst ha2 HA Q2 L2 m0 m1 m2 m3 m4 mlt
        go_wp2
        go_roundg (6 - (i + 1))
        case measure => omega
        case rel => exact ⟨i + 1, by go_num, by omega, by omega, rfl, ⟨_, _, rfl⟩, ⟨_, _, rfl⟩, HST⟩
      · obtain rfl : i = 6 := by omega
        have HE : Hid (((t.take 6).map cutP).length = 6) := (by have := HL.out; simp; omega : ((t.take 6).map cutP).length = 6)
        go_wp2
        go_ret2
        exact ⟨_, _, rfl, by rw [HE.out]; exact R.out⟩
    · obtain rfl : i = len := by omega
      have HE : Hid (t.take i = t.take 6 ∧ ((t.take 6).map cutP).length = i) := (by
        have := HL.out
        refine ⟨?_, by simp; omega⟩
        rw [List.take_of_length_le (by omega), List.take_of_length_le (by omega)] : t.take i = t.take 6 ∧ ((t.take 6).map cutP).length = i)
      go_wp2
      go_ret2
      exact ⟨_, _, rfl, by rw [HE.out.2, ← HE.out.1]; exact R.out⟩
end Go.Proofs.YtcckoncgfmbhiaaGreatDoor

/- Predicates as the reader's and as the schema's; filter.Read of what was printed. -/
namespace Go.Proofs.YtcckoncgfmbhiaaGreatDoor
open Go.ChangeShapes Go.WideShapes Go.ChangeAt Go.RowKit
set_option linter.unusedVariables false

theorem ba_of (s : ByteArray) : ba s.data.toList = s := by cases s; simp [ba]
def plOf (p : Pd) : Pl := ⟨p.name.data.toList, p.op, p.lo, p.hi, p.str.data.toList⟩
def pdOf (q : Pl) : Pd := ⟨ba q.name, q.op, q.lo, q.hi, ba q.str⟩
theorem pdOf_plOf (p : Pd) : pdOf (plOf p) = p := by cases p; simp [pdOf, plOf, ba_of]
theorem map_back (ps : List Pd) : (ps.map plOf).map pdOf = ps := by
  rw [List.map_map]
  have : pdOf ∘ plOf = id := by funext p; exact pdOf_plOf p
  rw [this, List.map_id]
theorem plOf_getD (ps : List Pd) (i : Nat) (hi : i < ps.length) : (ps.map plOf).getD i pl0 = plOf (ps.getD i pd0) := by simp [hi]
theorem pdOf_getD (qs : List Pl) (i : Nat) (hi : i < qs.length) : (qs.map pdOf).getD i pd0 = pdOf (qs.getD i pl0) := by simp [hi]
theorem PlIn.ofPd {w : World} {v : Value} {ps : List Pd} (h : PdIn w v ps) : PlIn w v (ps.map plOf) := by
  obtain ⟨a, c, hv, hh⟩ := h.shape
  refine ⟨a, c, by rw [List.length_map]; exact hv, fun hp => ?_⟩
  rw [List.length_map] at hp
  obtain ⟨g, ha, hg, hc, hj⟩ := hh hp
  refine ⟨g, ha, hg, by rw [List.length_map]; exact hc, fun i hi j hj5 => ?_⟩
  rw [List.length_map] at hi
  rw [plOf_getD ps i hi]
  obtain ⟨k0, k1, k2, k3, k4⟩ := hj i hi
  generalize ps.getD i pd0 = x at *
  rcases (show j = 0 ∨ j = 1 ∨ j = 2 ∨ j = 3 ∨ j = 4 by omega) with rfl | rfl | rfl | rfl | rfl
  · show _ = some (Value.string (ba x.name.data.toList)); rw [ba_of]; exact k0
  · exact k1
  · exact k2
  · exact k3
  · show _ = some (Value.string (ba x.str.data.toList)); rw [ba_of]; exact k4
theorem PdIn.ofPl {w : World} {v : Value} {qs : List Pl} (h : PlIn w v qs) : PdIn w v (qs.map pdOf) := by
  obtain ⟨a, c, hv, hh⟩ := h.shape
  refine ⟨a, c, by rw [List.length_map]; exact hv, fun hp => ?_⟩
  rw [List.length_map] at hp
  obtain ⟨g, ha, hg, hc, hj⟩ := hh hp
  refine ⟨g, ha, hg, by rw [List.length_map]; exact hc, fun i hi => ?_⟩
  rw [List.length_map] at hi
  rw [pdOf_getD qs i hi]
  have q := fun j hj5 => hj i hi j hj5
  exact ⟨q 0 (by omega), q 1 (by omega), q 2 (by omega), q 3 (by omega), q 4 (by omega)⟩
theorem letter_of {c : UInt8} (h : letterP c) : isLetter c = true := by unfold letterP at h; unfold isLetter; simp; omega
theorem digit_of {c : UInt8} (h : digitP c) : isDigit c = true := by unfold digitP at h; unfold isDigit; simp; omega
theorem name_bytes {s : ByteArray} (h : NameOk s) : (∃ c r, s.data.toList = c :: r ∧ isLetter c = true) ∧ (∀ c ∈ s.data.toList, alnum c = true) ∧ s.data.toList.length ≤ 12 := by
  have hlo := h.lo
  have hhi := h.hi
  refine ⟨?_, fun c hc => ?_, by simpa using hhi⟩
  · have e := dr_cons s 0 (by omega)
    have e0 : dr s 0 = s.data.toList := by simp [dr]
    rw [e0] at e
    refine ⟨_, _, e, ?_⟩
    rcases h.ch 0 (by omega) with h1 | h1
    · exact letter_of h1
    · exact absurd rfl h1.1
  · obtain ⟨i, hi, rfl⟩ := List.getElem_of_mem hc
    have hi' : i < s.size := by simpa using hi
    have e : s.data.toList[i] = s[i] := rfl
    rw [e]
    unfold alnum
    rcases h.ch i hi' with h1 | h1
    · rw [letter_of h1]; rfl
    · rw [digit_of h1.2]; simp
theorem strok_bytes {s : ByteArray} (h : StrOk s) : (∀ c ∈ s.data.toList, 32 ≤ c.toNat ∧ c.toNat ≤ 126) ∧ s.data.toList.length ≤ 40 := by
  refine ⟨fun c hc => ?_, by have := h.le; simpa using this⟩
  obtain ⟨i, hi, rfl⟩ := List.getElem_of_mem hc
  have h1 := h.ch i (by simpa using hi)
  have e : s.data.toList[i] = s[i]'(by simpa using hi) := rfl
  rw [e]; omega
/-- What is a schema's filter can be printed. -/
theorem prn_of {az : List At} {ps : List Pd} (hS : SchemaOk az) (hF : FilterOk az ps) : ∀ q ∈ ps.map plOf, PrnL q := by
  intro q hq
  obtain ⟨p, hp, rfl⟩ := List.mem_map.1 hq
  obtain ⟨i, hi, rfl⟩ := List.getElem_of_mem hp
  have e : ps.getD i pd0 = ps[i] := by simp [hi]
  obtain ⟨_, k, hk, hok⟩ := hF.2.2 i hi
  rw [e] at hk hok
  obtain ⟨hkl, hkn, _⟩ := hk
  obtain ⟨hN, hkind⟩ := (hS.2.2 k hkl).1
  rw [hkn] at hN
  obtain ⟨b1, b2, b3⟩ := name_bytes hN
  generalize ps[i] = x at *
  rcases hok with ⟨ho, hka, h1, h2, h3, h4⟩ | ⟨ho, hka, h1, h2, h3⟩
  · have hb : -2147483648 ≤ (az.getD k at0).mn ∧ (az.getD k at0).mx ≤ 2147483648 := by
      rcases hkind with hh | hh
      · exact ⟨hh.2.1, hh.2.2.2⟩
      · omega
    have hs0 : (plOf x).str = [] := by show x.str.data.toList = []; rw [h4]; rfl
    exact ⟨⟨b1, b2, Or.inl ⟨ho, by show _ ≤ x.lo; omega, by show x.lo ≤ _; omega, by show _ ≤ x.hi; omega, by show x.hi ≤ _; omega, hs0⟩⟩, Nat.le_trans b3 (by omega), by rw [hs0]; simp⟩
  · obtain ⟨c1, c2⟩ := strok_bytes h1
    exact ⟨⟨b1, b2, Or.inr ⟨by rcases ho with h | h; exact Or.inl h; exact Or.inr h.1, h2, h3, c1⟩⟩, Nat.le_trans b3 (by omega), Nat.le_trans c2 (by omega)⟩

set_option maxRecDepth 100000 in
set_option maxHeartbeats 1000000 in
theorem read_back (v : Value) (az : List At) (ps : List Pd) (W : World) (E : Env W) (hA : AtIn W v az) (hS : SchemaOk az) (hF : FilterOk az ps) (ht : (ba (pF (ps.map plOf))).size ≤ 300) :
    Calls Tryz.prog 7 #[v, .string (ba (pF (ps.map plOf)))] W fun e w' => ∃ u, e = .returned (.tuple #[u, .nilIface]) ∧ PlIn w' u (ps.map plOf) ∧ Below W.heap.size W w' := by
  have hne : ps.map plOf ≠ [] := by
    intro e
    have := hF.1
    have h0 : (ps.map plOf).length = 0 := by rw [e]; rfl
    rw [List.length_map] at h0
    omega
  have HPB : Hid (pars (ba (pF (ps.map plOf))).data.toList = .ok (ps.map plOf) []) := by
    rw [Hid, ba_list]
    exact pars_back _ (fun p hp => (prn_of hS hF p hp).prn) hne
  have HPA : Hid _ := parse_any (ba (pF (ps.map plOf))) W E (by unfold maxLen; omega)
  have HH : Hid (AtIn W v az ∧ FilterOk az ps ∧ az.length ≤ 1000 ∧ ps.length ≤ 1000) := ⟨hA, hF, by have := hS.2.1; omega, by have := hF.2.1; omega⟩
  have HST : Hid (∀ i, i < ps.length → (ps.getD i pd0).str.size ≤ maxLen) := fun i hi => by
    have hp := prn_of hS hF (plOf (ps.getD i pd0)) (by
      have e : ps.getD i pd0 = ps[i] := by simp [hi]
      rw [e]
      exact List.mem_map.2 ⟨_, List.getElem_mem hi, rfl⟩)
    have hl := hp.sl
    have e2 : (plOf (ps.getD i pd0)).str.length = (ps.getD i pd0).str.size := by show (ps.getD i pd0).str.data.toList.length = _; simp
    rw [e2] at hl
    unfold maxLen; omega
  have hsz := ht
  clear hA hS hF ht E hne
  generalize ba (pF (ps.map plOf)) = t at *
  go_enter Tryz.func7, Tryz.ntmps7
  go_wp2_with fail
  refine Calls.mono HPA.out ?_
  rintro e W1 ⟨hAn, b1⟩
  obtain ⟨u, rfl, hrow⟩ := hAn.ok (by omega) HPB.out
  have HP1 : Hid (PlIn W1 u (ps.map plOf) ∧ Below W.heap.size W W1) := ⟨PlIn.ofOwn hrow, b1⟩
  clear hAn hrow b1 HPA
  go_wp2_with fail
  have hfa := filter_any v u az ps W1 (HH.out.1.below HP1.out.2) (by have := PdIn.ofPl HP1.out.1; rw [map_back] at this; exact this) HH.out.2.2.1 HH.out.2.2.2 HST.out
  refine Calls.mono hfa ?_
  rintro e W2 ⟨hE, b2⟩
  have := hE.t HH.out.2.1
  subst this
  have HP2 : Hid (PlIn W2 u (ps.map plOf) ∧ Below W.heap.size W W2) := ⟨HP1.out.1.below b2, HP1.out.2.trans (b2.mono HP1.out.2.size)⟩
  clear hE b2 hfa HP1
  go_wp2
  go_ret2
  exact ⟨u, rfl, HP2.out.1, HP2.out.2⟩
end Go.Proofs.YtcckoncgfmbhiaaGreatDoor

/- filter.Read of any text, and the document's reader beside it; wigwagref06.Bytes. -/
namespace Go.Proofs.YtcckoncgfmbhiaaGreatDoor
open Go.ChangeShapes Go.WideShapes Go.ChangeAt Go.RowKit
set_option linter.unusedVariables false

theorem plin_nil (w : World) (c : Nat) : PlIn w (.slice none 0 0) [] := ⟨none, 0, rfl, fun h => by simp at h⟩
/-- What the two readers answer of one text; what they read can be printed. -/
def TwoQ (s : ByteArray) (ps : List Pl) (cd pl : Int) : Prop :=
    (∀ W, Env W → Calls Tryz.prog 22 #[.string s] W fun e w' => ∃ v er, e = .returned (.tuple #[v, er]) ∧ PlIn w' v ps ∧ ((er = .nilIface ∧ cd = 0) ∨ (¬ cd = 0 ∧ ∃ N, er = .iface 60 (.pointer (some ⟨N, 0, none⟩)) ∧ FaultAt w' N pl cd)) ∧ Below W.heap.size W w') ∧
    (∀ W, Calls Tryz.prog 8 #[.string s] W fun e w' => ∃ v, e = .returned (.tuple #[v, .int .i64 cd, .int .i64 pl]) ∧ PlIn w' v ps ∧ Below W.heap.size W w')
theorem two_q (s : ByteArray) (hs : s.size ≤ 1000) : ∃ (ps : List Pl) (cd pl : Int), ps.length ≤ 1000 ∧ (∀ p ∈ ps, PrnL p) ∧ TwoQ s ps cd pl := by
  have hm : s.size ≤ maxLen := by unfold maxLen; omega
  have hsl : s.data.toList.length ≤ 1000 := by simpa using hs
  by_cases hl : 300 < s.size
  · refine ⟨[], 1, 0, by simp, by simp, fun W E => ?_, fun W => ?_⟩
    · refine (parse_any s W E hm).mono ?_
      rintro e w' ⟨hA, hb⟩
      unfold ParsAns at hA
      rw [if_pos hl] at hA
      obtain ⟨N, rfl, hF⟩ := hA
      exact ⟨_, _, rfl, plin_nil _ 0, Or.inr ⟨by omega, N, rfl, hF⟩, hb⟩
    · refine (rparse_any s W hm).mono ?_
      rintro e w' ⟨hA, hb⟩
      unfold RParsAns at hA
      rw [if_pos hl] at hA
      exact ⟨_, hA, plin_nil _ 0, hb⟩
  · cases hp : pars s.data.toList with
    | fail b r =>
      refine ⟨[], 2, ((s.size - r.length : Nat) : Int), by simp, by simp, fun W E => ?_, fun W => ?_⟩
      · refine (parse_any s W E hm).mono ?_
        rintro e w' ⟨hA, hb⟩
        obtain ⟨N, rfl, hF⟩ := hA.fail hl hp
        exact ⟨_, _, rfl, plin_nil _ 0, Or.inr ⟨by omega, N, rfl, hF⟩, hb⟩
      · refine (rparse_any s W hm).mono ?_
        rintro e w' ⟨hA, hb⟩
        unfold RParsAns at hA
        rw [if_neg hl, hp] at hA
        exact ⟨_, hA, plin_nil _ 0, hb⟩
    | ok ps r =>
      have hn : ps.length ≤ 1000 := by
        have h1 : ∀ n acc l qs r, rFil n acc l = .ok qs r → qs.length ≤ acc.length + n := by
          intro n
          induction n with
          | zero => intro acc l qs r h; unfold rFil at h; cases h
          | succ n ih =>
            intro acc l qs r h
            unfold rFil at h
            split at h
            · cases h
            · split at h
              · cases h; simp
              · cases h
              · have := ih _ _ _ _ h; simp at this; omega
        have h2 := h1 _ _ _ _ _ (show rFil (s.data.toList.length + 1) [] s.data.toList = .ok ps r from hp)
        simp at h2; omega
      refine ⟨ps, 0, 0, hn, pars_prn hp hsl, fun W E => ?_, fun W => ?_⟩
      · refine (parse_any s W E hm).mono ?_
        rintro e w' ⟨hA, hb⟩
        obtain ⟨v, rfl, hrow⟩ := hA.ok hl hp
        exact ⟨_, _, rfl, PlIn.ofOwn hrow, Or.inl ⟨rfl, rfl⟩, hb⟩
      · refine (rparse_any s W hm).mono ?_
        rintro e w' ⟨hA, hb⟩
        unfold RParsAns at hA
        rw [if_neg hl, hp] at hA
        obtain ⟨v, rfl, hrow⟩ := hA
        exact ⟨_, rfl, PlIn.ofOwn hrow, hb⟩
theorem pl_str {ps : List Pl} (hp : ∀ p ∈ ps, PrnL p) : ∀ i, i < (ps.map pdOf).length → ((ps.map pdOf).getD i pd0).str.size ≤ maxLen := fun i hi => by
  rw [List.length_map] at hi
  rw [pdOf_getD ps i hi]
  have e : ps.getD i pl0 = ps[i] := by simp [hi]
  have h := (hp _ (List.getElem_mem hi)).sl
  rw [e]
  show (ba ps[i].str).size ≤ maxLen
  rw [ba_size]; unfold maxLen; omega
/-- A fault of filter's around a fault of value's. -/
def FaultIn (w : World) (N : Nat) : Prop :=
  ∃ (M : Nat) (a b : Int), w.heap[N]? = some (.cells #[.string ⟨#[102, 105, 108, 116, 101, 114]⟩, .int .i64 a, .iface 60 (.pointer (some ⟨M, 0, none⟩))] 62 (0, 0)) ∧
    w.heap[M]? = some (.cells #[.string ⟨#[118, 97, 108, 117, 101]⟩, .int .i64 b, .iface 39 (.int .i64 3)] 62 (0, 0))
theorem FaultIn.below {w w' : World} {N : Nat} (h : FaultIn w N) (hb : Below w.heap.size w w') : FaultIn w' N := by
  obtain ⟨M, a, b, h1, h2⟩ := h
  exact ⟨M, a, b, (hb.block N (lt_of_block h1)).trans h1, (hb.block M (lt_of_block h2)).trans h2⟩
/-- What filter.Read answers. -/
def ReadAns (w' : World) (u er : Value) (az : List At) (ps : List Pl) (cd pl : Int) : Prop :=
  (¬ cd = 0 ∧ u = .slice none 0 0 ∧ ∃ N, er = .iface 60 (.pointer (some ⟨N, 0, none⟩)) ∧ FaultAt w' N pl cd) ∨
  (cd = 0 ∧ ¬ FilterOk az (ps.map pdOf) ∧ u = .slice none 0 0 ∧ ∃ N, er = .iface 60 (.pointer (some ⟨N, 0, none⟩)) ∧ FaultIn w' N) ∨
  (cd = 0 ∧ FilterOk az (ps.map pdOf) ∧ er = .nilIface ∧ PlIn w' u ps)

set_option maxRecDepth 100000 in
set_option maxHeartbeats 1000000 in
theorem read_any (v : Value) (az : List At) (s : ByteArray) (ps : List Pl) (cd pl : Int) (W : World) (E : Env W) (hA : AtIn W v az) (hal : az.length ≤ 1000) (hn : ps.length ≤ 1000) (hp : ∀ p ∈ ps, PrnL p) (hT : TwoQ s ps cd pl) :
    Calls Tryz.prog 7 #[v, .string s] W fun e w' => ∃ u er, e = .returned (.tuple #[u, er]) ∧ ReadAns w' u er az ps cd pl ∧ Below W.heap.size W w' := by
  have HT : Hid _ := hT.1 W E
  have HA : Hid (AtIn W v az ∧ az.length ≤ 1000 ∧ (ps.map pdOf).length ≤ 1000) := ⟨hA, hal, by rw [List.length_map]; exact hn⟩
  have HS : Hid _ := pl_str hp
  clear hT E hA hal hn hp
  go_enter Tryz.func7, Tryz.ntmps7
  go_wp2_with fail
  refine Calls.mono HT.out ?_
  rintro e W1 ⟨u, er, rfl, hP, her, b1⟩
  have HP1 : Hid (PlIn W1 u ps ∧ Below W.heap.size W W1) := ⟨hP, b1⟩
  clear HT hP b1
  rcases her with ⟨rfl, h0⟩ | ⟨h0, N, rfl, hF⟩
  · have HC : Hid (cd = 0) := h0
    clear h0
    go_wp2_with fail
    refine Calls.mono (filter_any v u az (ps.map pdOf) W1 (HA.out.1.below HP1.out.2) (PdIn.ofPl HP1.out.1) HA.out.2.1 HA.out.2.2 HS.out) ?_
    rintro e W2 ⟨hE, b2⟩
    have HP2 : Hid (PlIn W2 u ps ∧ Below W.heap.size W W2) := ⟨HP1.out.1.below b2, HP1.out.2.trans (b2.mono HP1.out.2.size)⟩
    clear b2 HP1
    rcases hE with ⟨rfl, hOK⟩ | ⟨b, n, rfl, hno, hbl⟩
    · have HOK : Hid (FilterOk az (ps.map pdOf)) := hOK
      clear hOK
      go_wp2
      go_ret2
      exact ⟨_, _, rfl, Or.inr (Or.inr ⟨HC.out, HOK.out, rfl, HP2.out.1⟩), HP2.out.2⟩
    · have HNO : Hid (¬ FilterOk az (ps.map pdOf)) := hno
      have HBL : Hid (W2.heap[b]? = _) := hbl
      clear hno hbl
      go_wp2
      go_ret2
      exact ⟨_, _, rfl, Or.inr (Or.inl ⟨HC.out, HNO.out, rfl, _, rfl, b, _, n, heap_alloc_new W2 _, (Below.heap_alloc W2 _ b (lt_of_block HBL.out)).trans HBL.out⟩), HP2.out.2.alloc HP2.out.2.size _⟩
  · have HF : Hid (¬ cd = 0 ∧ FaultAt W1 N pl cd) := ⟨h0, hF⟩
    clear h0 hF
    go_wp2
    go_ret2
    exact ⟨_, _, rfl, Or.inl ⟨HF.out.1, rfl, N, rfl, HF.out.2⟩, HP1.out.2⟩
end Go.Proofs.YtcckoncgfmbhiaaGreatDoor

/- The document's Digits (wigwagref06): a number as a text. -/
namespace Go.Proofs.YtcckoncgfmbhiaaGreatDoor
open Go.ChangeShapes Go.WideShapes Go.ChangeAt Go.RowKit
set_option linter.unusedVariables false

/-- The digits so far, behind what is left of the number. -/
def DgAt (U i u : Nat) (s : List UInt8) : Prop := (i = 0 ∨ 0 < u → Lib.decDigits U = Lib.decDigits u ++ s) ∧ (¬ (i = 0 ∨ 0 < u) → Lib.decDigits U = s) ∧ s.length ≤ i
theorem DgAt.step {U i u : Nat} {s : List UInt8} (h : DgAt U i u s) (hu : i = 0 ∨ 0 < u) : DgAt U (i + 1) (u / 10) (UInt8.ofNat (48 + u % 10) :: s) := by
  have e := h.1 hu
  refine ⟨fun h1 => ?_, fun h1 => ?_, by have := h.2.2; simp; omega⟩
  · have h2 : ¬ u < 10 := by omega
    rw [e, Lib.decDigits, dif_neg h2]; simp
  · have h2 : u < 10 := by omega
    rw [e, Lib.decDigits_one h2, Nat.mod_eq_of_lt h2]; rfl
theorem pow10_step (u i : Nat) (h : u < 10 ^ (20 - i)) (hi : i < 20) : u / 10 < 10 ^ (20 - (i + 1)) := by
  have e : 20 - i = 20 - (i + 1) + 1 := by omega
  rw [e, Nat.pow_succ] at h
  exact (Nat.div_lt_iff_lt_mul (by omega)).2 h

def decF (n : Int) : ByteArray := ba (Lib.itoa n)
set_option maxRecDepth 100000 in
set_option maxHeartbeats 2000000 in
theorem digits_any (n : Int) (w : World) (h : -9223372036854775808 ≤ n ∧ n ≤ 9223372036854775807) :
    Calls Tryz.prog 33 #[.int .i64 n] w fun e w' => e = .returned (.string (decF n)) ∧ Below w.heap.size w w' := by
  obtain ⟨U, hU⟩ : ∃ U : Nat, U = n.natAbs := ⟨_, rfl⟩
  have hU64 : U ≤ 9223372036854775808 := by omega
  have hp20 : U < 10 ^ (20 - 0) := by
    have : (10 : Nat) ^ (20 - 0) = 100000000000000000000 := by decide
    omega
  have HP : Hid (U < 10 ^ (20 - 0)) := hp20
  clear hp20
  have hcv : ∀ (c : UInt8) (W : World) (o : Obj), o = .cells #[.int .u8 (c.toNat : Int)] 5 → (convert 41 9 (.slice (some ⟨W.heap.size, 0, none⟩) 1 1)).run Tryz.prog (W.alloc o) = .ok (.string ⟨#[c]⟩) (W.alloc o) := fun c W o ho => by
    subst ho
    refine run_convert_bytes_back (P := Tryz.prog) _ 41 9 5 ⟨W.heap.size, 0, none⟩ 1 [c] Tryz.underlying41 Tryz.underlying5 Tryz.underlying9 (fun i hi => ?_)
    simp at hi
    subst hi
    simp [Addr.add]
  have HCV : Hid _ := hcv
  clear hcv
  rcases (show n < 0 ∨ ¬ n < 0 by omega) with hneg | hneg
  case inl =>
    have e1 : IntKind.u64.wrap n = 18446744073709551616 - (U : Int) := by
      show n % 18446744073709551616 = _
      omega
    have e2 : IntKind.u64.wrap (-(18446744073709551616 - (U : Int))) = (U : Int) := by
      show (-(18446744073709551616 - (U : Int))) % 18446744073709551616 = _
      omega
    have HD : Hid (decF n = ⟨#[45]⟩ ++ ⟨(Lib.decDigits U).toArray⟩) := by
      show decF n = _
      unfold decF ba Lib.itoa
      rw [if_pos hneg, hU]
      apply ByteArray.ext; simp
    clear hU
    go_enter Tryz.func33, Tryz.ntmps33
    go_wp2
    clear e1 e2
    go_loopg [3, 4, 5] 20 (fun kx s3 s4 s5 wr => ∃ (i u : Nat) (s : List UInt8), s3 = .int .u64 u ∧ s4 = .string ⟨s.toArray⟩ ∧ s5 = .int .i64 i ∧ i ≤ 20 ∧ u ≤ 9223372036854775808 ∧ s.length ≤ 20 ∧ kx = 20 - i ∧ Hid (DgAt U i u s ∧ u < 10 ^ (20 - i)) ∧ Hid (Below w.heap.size w wr))
    case atStart => exact ⟨0, U, [], rfl, rfl, rfl, by omega, hU64, by simp, rfl, (⟨⟨fun _ => by simp, fun h => absurd (Or.inl rfl) h, by simp⟩, HP.out⟩ : _ ∧ _), (Below.refl _ _ : Below w.heap.size w w)⟩
    case round =>
      obtain ⟨i, u, s, rfl, rfl, rfl, hi, hu, hsl, rfl, HDG, HB⟩ := hrel
      by_cases hgo : i < 20 ∧ (i = 0 ∨ 0 < u)
      · have HN : Hid (DgAt U (i + 1) (u / 10) (UInt8.ofNat (48 + u % 10) :: s) ∧ u / 10 < 10 ^ (20 - (i + 1))) := ⟨HDG.out.1.step hgo.2, pow10_step u i HDG.out.2 hgo.1⟩
        obtain ⟨m, hm⟩ : ∃ m : Nat, m = u % 10 := ⟨_, rfl⟩
        obtain ⟨q, hq⟩ : ∃ q : Nat, q = u / 10 := ⟨_, rfl⟩
        have m1 : (u : Int).tmod 10 = (m : Int) := by rw [Int.tmod_eq_emod_of_nonneg (by omega)]; omega
        have q1 : (u : Int).tdiv 10 = (q : Int) := by rw [Int.tdiv_eq_ediv_of_nonneg (by omega)]; omega
        have hm10 : m < 10 := by omega
        have hqu : q ≤ 9223372036854775808 := by omega
        rw [← hm, ← hq] at HN
        have c1 : (UInt8.ofNat (48 + m)).toNat = 48 + m := by rw [UInt8.toNat_ofNat']; omega
        have HC : Hid _ := HCV.out (UInt8.ofNat (48 + m)) wr _ rfl
        rw [c1] at HC
        clear c1
        generalize UInt8.ofNat (48 + m) = c at HC HN
        have hc := HC.out
        rw [show ((48 + m : Nat) : Int) = 48 + (m : Int) by omega] at hc
        clear hm hq
        rcases (show (i = 0) ∨ (¬ i = 0 ∧ 0 < u) by omega) with hi0 | ⟨hi0, hu0⟩
        all_goals
          have hi20 : i < 20 := hgo.1
          clear hgo
          go_wp2
          go_roundg (20 - (i + 1))
          case measure => omega
          case rel => exact ⟨i + 1, q, c :: s, by go_num, (by congr 1), by go_num, by omega, hqu, by have := HN.out.1.2.2; simp at this ⊢; omega, rfl, HN, (HB.out.trans ((pbel1 _ _).mono HB.out.size) : Below w.heap.size w _)⟩
      · have hend : ¬ (i = 0 ∨ 0 < u) := by
          intro hh
          have h20 : i = 20 := by omega
          have := HDG.out.2
          rw [h20] at this
          simp at this
          omega
        have HS : Hid (Lib.decDigits U = s) := HDG.out.1.2.1 hend
        rcases (show ¬ i < 20 ∨ (i < 20 ∧ ¬ i = 0 ∧ u = 0) by omega) with h2 | ⟨h2, h3, rfl⟩
        all_goals
          clear hgo hend
          go_wp2
          go_ret
          exact ⟨by rw [HD.out, HS.out]; rfl, HB.out⟩
  case inr =>
    have e1 : IntKind.u64.wrap n = (U : Int) := by
      show n % 18446744073709551616 = _
      omega
    have HD : Hid (decF n = ⟨(Lib.decDigits U).toArray⟩) := by
      show decF n = _
      unfold decF ba Lib.itoa
      rw [if_neg hneg]
      have : n.toNat = U := by omega
      rw [this]
    clear hU
    go_enter Tryz.func33, Tryz.ntmps33
    go_wp2
    clear e1
    go_loopg [3, 4, 5] 20 (fun kx s3 s4 s5 wr => ∃ (i u : Nat) (s : List UInt8), s3 = .int .u64 u ∧ s4 = .string ⟨s.toArray⟩ ∧ s5 = .int .i64 i ∧ i ≤ 20 ∧ u ≤ 9223372036854775808 ∧ s.length ≤ 20 ∧ kx = 20 - i ∧ Hid (DgAt U i u s ∧ u < 10 ^ (20 - i)) ∧ Hid (Below w.heap.size w wr))
    case atStart => exact ⟨0, U, [], rfl, rfl, rfl, by omega, hU64, by simp, rfl, (⟨⟨fun _ => by simp, fun h => absurd (Or.inl rfl) h, by simp⟩, HP.out⟩ : _ ∧ _), (Below.refl _ _ : Below w.heap.size w w)⟩
    case round =>
      obtain ⟨i, u, s, rfl, rfl, rfl, hi, hu, hsl, rfl, HDG, HB⟩ := hrel
      by_cases hgo : i < 20 ∧ (i = 0 ∨ 0 < u)
      · have HN : Hid (DgAt U (i + 1) (u / 10) (UInt8.ofNat (48 + u % 10) :: s) ∧ u / 10 < 10 ^ (20 - (i + 1))) := ⟨HDG.out.1.step hgo.2, pow10_step u i HDG.out.2 hgo.1⟩
        obtain ⟨m, hm⟩ : ∃ m : Nat, m = u % 10 := ⟨_, rfl⟩
        obtain ⟨q, hq⟩ : ∃ q : Nat, q = u / 10 := ⟨_, rfl⟩
        have m1 : (u : Int).tmod 10 = (m : Int) := by rw [Int.tmod_eq_emod_of_nonneg (by omega)]; omega
        have q1 : (u : Int).tdiv 10 = (q : Int) := by rw [Int.tdiv_eq_ediv_of_nonneg (by omega)]; omega
        have hm10 : m < 10 := by omega
        have hqu : q ≤ 9223372036854775808 := by omega
        rw [← hm, ← hq] at HN
        have c1 : (UInt8.ofNat (48 + m)).toNat = 48 + m := by rw [UInt8.toNat_ofNat']; omega
        have HC : Hid _ := HCV.out (UInt8.ofNat (48 + m)) wr _ rfl
        rw [c1] at HC
        clear c1
        generalize UInt8.ofNat (48 + m) = c at HC HN
        have hc := HC.out
        rw [show ((48 + m : Nat) : Int) = 48 + (m : Int) by omega] at hc
        clear hm hq
        rcases (show (i = 0) ∨ (¬ i = 0 ∧ 0 < u) by omega) with hi0 | ⟨hi0, hu0⟩
        all_goals
          have hi20 : i < 20 := hgo.1
          clear hgo
          go_wp2
          go_roundg (20 - (i + 1))
          case measure => omega
          case rel => exact ⟨i + 1, q, c :: s, by go_num, (by congr 1), by go_num, by omega, hqu, by have := HN.out.1.2.2; simp at this ⊢; omega, rfl, HN, (HB.out.trans ((pbel1 _ _).mono HB.out.size) : Below w.heap.size w _)⟩
      · have hend : ¬ (i = 0 ∨ 0 < u) := by
          intro hh
          have h20 : i = 20 := by omega
          have := HDG.out.2
          rw [h20] at this
          simp at this
          omega
        have HS : Hid (Lib.decDigits U = s) := HDG.out.1.2.1 hend
        rcases (show ¬ i < 20 ∨ (i < 20 ∧ ¬ i = 0 ∧ u = 0) by omega) with h2 | ⟨h2, h3, rfl⟩
        all_goals
          clear hgo hend
          go_wp2
          go_ret
          exact ⟨by rw [HD.out, HS.out]; rfl, HB.out⟩
end Go.Proofs.YtcckoncgfmbhiaaGreatDoor

/- The document's Print (wigwagref06). -/
namespace Go.Proofs.YtcckoncgfmbhiaaGreatDoor
open Go.ChangeShapes Go.WideShapes Go.ChangeAt Go.RowKit
set_option linter.unusedVariables false

theorem pF_snoc : ∀ (ps : List Pl) (p : Pl), ps ≠ [] → pF (ps ++ [p]) = pF ps ++ [32, 97, 110, 100, 32] ++ pP p
  | [], p, h => absurd rfl h
  | [q], p, _ => by
    show pP q ++ 32 :: 97 :: 110 :: 100 :: 32 :: pP p = pP q ++ [32, 97, 110, 100, 32] ++ pP p
    simp
  | q :: q' :: ps, p, _ => by
    have ih := pF_snoc (q' :: ps) p (by simp)
    show pP q ++ 32 :: 97 :: 110 :: 100 :: 32 :: pF (q' :: ps ++ [p]) = (pP q ++ 32 :: 97 :: 110 :: 100 :: 32 :: pF (q' :: ps)) ++ [32, 97, 110, 100, 32] ++ pP p
    rw [ih]; simp
/-- What stands ahead of the next predicate. -/
def pre (ps : List Pl) (i : Nat) : List UInt8 := if i = 0 then [] else pF (ps.take i) ++ [32, 97, 110, 100, 32]
theorem pre_step (ps : List Pl) (i : Nat) (hi : i < ps.length) : pF (ps.take (i + 1)) = pre ps i ++ pP (ps.getD i pl0) := by
  have e : ps.take (i + 1) = ps.take i ++ [ps.getD i pl0] := by
    rw [List.take_succ_eq_append_getElem hi]; simp [hi]
  unfold pre
  by_cases h0 : i = 0
  · subst h0; rw [e]; simp [pF]
  · rw [if_neg h0, e]
    exact pF_snoc _ _ (fun h => by have h2 := congrArg List.length h; rw [List.length_take, List.length_nil] at h2; omega)
theorem ba_app (l m : List UInt8) : ba l ++ ba m = ba (l ++ m) := by apply ByteArray.ext; simp [ba]
theorem ext_one (s : ByteArray) (k : Nat) (h : k < s.size) : s.extract k (k + 1) = ba [s[k]] := by
  rw [ext_ba s k (k + 1) (by omega) (by omega), show k + 1 - k = 1 by omega, dr_cons s k h]; rfl

set_option maxRecDepth 100000 in
set_option maxHeartbeats 8000000 in
theorem rprint_any (v : Value) (ps : List Pl) (w : World) (h : PlIn w v ps) (hl : ps.length ≤ 100) (hp : ∀ p ∈ ps, PrnL p) :
    Calls Tryz.prog 16 #[v] w fun e w' => e = .returned (.string (ba (pF ps))) ∧ Below w.heap.size w w' := by
  obtain ⟨a, c, hv, _⟩ := h.shape
  subst hv
  have HI : Hid (PlIn w (.slice a ps.length c) ps) := h
  have HP : Hid (∀ p ∈ ps, PrnL p) := hp
  have HSZ : Hid (∀ i, (pF (ps.take i)).length ≤ 320000) := fun i => by
    have := pF_le (ps.take i) (fun p hp' => hp p (List.mem_of_mem_take hp'))
    have h2 : (ps.take i).length ≤ ps.length := List.length_take_le' _ _
    omega
  clear h hp
  go_enter Tryz.func16, Tryz.ntmps16
  go_wp2
  go_loopg [3, 9] ps.length (fun kx s3 s9 wr => ∃ (i : Nat) (t : ByteArray), s9 = .int .i64 (i : Int) ∧ s3 = .string t ∧ i ≤ ps.length ∧ kx = ps.length - i ∧ t.size ≤ 400000 ∧ Hid (t = ba (pF (ps.take i)) ∧ Below w.heap.size w wr))
  case atStart => exact ⟨0, _, rfl, rfl, Nat.zero_le _, rfl, by show (#[] : Array UInt8).size ≤ _; simp, (⟨rfl, Below.refl _ _⟩ : _ ∧ _)⟩
  case round =>
    obtain ⟨i, t, rfl, rfl, hi, rfl, hts, I⟩ := hrel
    by_cases hlt : i < ps.length
    case neg =>
      obtain rfl : i = ps.length := by omega
      have HT : Hid (t = ba (pF ps)) := by have := I.out.1; rw [List.take_length] at this; exact this
      go_wp2
      go_ret
      exact ⟨by rw [← HT.out]; rfl, I.out.2⟩
    obtain ⟨g, ha, hg, k0, k1, k2, k3, k4⟩ := (HI.out.below I.out.2).row i hlt
    subst ha
    have hgd : ps.getD i pl0 = ps[i] := by simp [hlt]
    have HPI : Hid (PrnL (ps.getD i pl0)) := by rw [Hid, hgd]; exact HP.out _ (List.getElem_mem hlt)
    have HST : Hid (pF (ps.take (i + 1)) = pre ps i ++ pP (ps.getD i pl0)) := pre_step ps i hlt
    have HPRE : Hid (if i = 0 then t = ba (pre ps i) else t ++ ⟨#[32, 97, 110, 100, 32]⟩ = ba (pre ps i)) := by
      rw [Hid]
      unfold pre
      by_cases h0 : i = 0
      · rw [if_pos h0, if_pos h0, I.out.1, h0]; rfl
      · rw [if_neg h0, if_neg h0, I.out.1, show (⟨#[32, 97, 110, 100, 32]⟩ : ByteArray) = ba [32, 97, 110, 100, 32] from rfl, ba_app]
    clear hgd
    generalize ps.getD i pl0 = q at k0 k1 k2 k3 k4 HPI HST
    obtain ⟨W0, hW0⟩ : ∃ W0, W0 = wr.alloc (.cells #[.string (ba q.name), .int .i64 q.op, .int .i64 q.lo, .int .i64 q.hi, .string (ba q.str)] 66) := ⟨_, rfl⟩
    have hz : W0.heap[wr.heap.size]? = some (.cells #[.string (ba q.name), .int .i64 q.op, .int .i64 q.lo, .int .i64 q.hi, .string (ba q.str)] 66 (0, 0)) := by rw [hW0]; exact heap_alloc_new wr _
    have HB0 : Hid (Below w.heap.size w W0) := by rw [Hid, hW0]; exact I.out.2.trans ((pbel1 _ _).mono I.out.2.size)
    obtain ⟨g0, g1, g2, g3, g4, gf⟩ := five hz
    have HSI : Hid ((pF (ps.take (i + 1))).length ≤ 320000) := HSZ.out (i + 1)
    have hps : (pre ps i).length ≤ 320000 := by have := HSI.out; rw [HST.out, List.length_append] at this; omega
    obtain ⟨bs, hbs⟩ : ∃ bs, bs = ba (pre ps i) := ⟨_, rfl⟩
    have hbz : bs.size ≤ 320000 := by rw [hbs, ba_size]; exact hps
    have HBS : Hid (bs = ba (pre ps i)) := hbs
    rw [← hbs] at HPRE
    clear hbs hps I
    rcases Nat.eq_zero_or_pos i with h0 | h0
    all_goals
      first
        | (have hpre : bs = t := by have := HPRE.out; rw [if_pos h0] at this; exact this.symm
           subst hpre
           replace h0 : ¬ 0 < i := by omega)
        | (have hpre : t ++ ⟨#[32, 97, 110, 100, 32]⟩ = bs := by have := HPRE.out; rw [if_neg (by omega)] at this; exact this)
      clear HPRE
      go_upto_region 7 with fail
      rw [← hW0]
      clear k0 k1 k2 k3 k4 hW0 hz
      generalize wr.heap.size = X at *
      obtain ⟨nm, op, lo, hi', st⟩ := q
      simp only at g0 g1 g2 g3 g4 HST HPI
      obtain ⟨⟨_, _, hch⟩, hnl, hsl⟩ := HPI.out
      simp only at hch hnl hsl
      have hnz : (ba nm).size ≤ 1000 := by rw [ba_size]; exact hnl
      have hsz : (ba st).size ≤ 1000 := by rw [ba_size]; exact hsl
      rcases hch with ⟨rfl, h1, h2, h3, h4, _⟩ | ⟨hop, _, _, _⟩
      · have s1 : (decF lo).size ≤ 11 := by unfold decF; rw [ba_size]; exact itoa_len11 lo h1 h2
        have s2 : (decF hi').size ≤ 11 := by unfold decF; rw [ba_size]; exact itoa_len11 hi' h3 h4
        have HE : Hid (bs ++ (ba nm ++ ⟨#[32, 105, 110, 32]⟩ ++ decF lo ++ ⟨#[46, 46]⟩ ++ decF hi') = ba (pF (ps.take (i + 1)))) := by
          have e : pP ⟨nm, 1, lo, hi', st⟩ = nm ++ [32, 105, 110, 32] ++ Lib.itoa lo ++ [46, 46] ++ Lib.itoa hi' := if_pos rfl
          rw [Hid, HST.out, HBS.out, e]
          unfold decF
          apply ByteArray.ext
          simp [ba]
        obtain ⟨ι, F, _, hF0, hFb, hFc⟩ := grown_fam W0
        have F0 : ∀ i, (F i).cell? ⟨X, 0, none⟩ = some (.string (ba nm)) := fun i => cell_grown g0 (hFb i)
        have F2 : ∀ i, (F i).cell? ⟨X, 2, none⟩ = some (.int .i64 lo) := fun i => cell_grown g2 (hFb i)
        have F3 : ∀ i, (F i).cell? ⟨X, 3, none⟩ = some (.int .i64 hi') := fun i => cell_grown g3 (hFb i)
        have HF : Hid ((∃ i, { W0 with drawn := W0.drawn + 1 } = F i) ∧ (∀ i, Below W0.heap.size W0 (F i)) ∧ (∀ i W, Below W0.heap.size (F i) W → ∃ j, W = F j)) := ⟨hF0, hFb, hFc⟩
        have HC1 : Hid (∀ i, Calls Tryz.prog 33 #[.int .i64 lo] (F i) fun e w' => e = .returned (.string (decF lo)) ∧ Below (F i).heap.size (F i) w') := fun i => digits_any lo _ (by omega)
        have HC2 : Hid (∀ i, Calls Tryz.prog 33 #[.int .i64 hi'] (F i) fun e w' => e = .returned (.string (decF hi')) ∧ Below (F i).heap.size (F i) w') := fun i => digits_any hi' _ (by omega)
        clear hF0 hFb hFc g0 g2 g3 g4 gf h1 h2 h3 h4
        generalize decF lo = d1 at *
        generalize decF hi' = d2 at *
        generalize ba nm = nmb at *
        go_wp2_with fail
        refine wp_region_fam F HF.out.1 (by kernel_rfl) (by kernel_rfl) ?_
        repeat (go_big_quiet_step (first
          | (go_at_call_of 33 (Value.int .i64 lo); refine Calls.mono (HC1.out _) ?_; rintro e' w' ⟨hs, hb⟩; exact ⟨hs, HF.out.2.2 _ _ (hb.mono (HF.out.2.1 _).size)⟩)
          | (go_at_call_of 33 (Value.int .i64 hi'); refine Calls.mono (HC2.out _) ?_; rintro e' w' ⟨hs, hb⟩; exact ⟨hs, HF.out.2.2 _ _ (hb.mono (HF.out.2.1 _).size)⟩)))
        refine wpQuiet_nil ?_
        rintro _ ⟨fi, rfl⟩
        have HBW : Hid (Below w.heap.size w (F fi)) := HB0.out.trans ((HF.out.2.1 fi).mono HB0.out.size)
        generalize F fi = W1 at HBW ⊢
        clear F0 F2 F3 HF HC1 HC2
        have HFIN : Hid ((bs ++ (nmb ++ ⟨#[32, 105, 110, 32]⟩ ++ d1 ++ ⟨#[46, 46]⟩ ++ d2)).size ≤ 400000 ∧ bs ++ (nmb ++ ⟨#[32, 105, 110, 32]⟩ ++ d1 ++ ⟨#[46, 46]⟩ ++ d2) = ba (pF (ps.take (i + 1)))) := by
          refine ⟨?_, HE.out⟩
          rw [HE.out, ba_size]
          have := HSI.out
          omega
        go_wp2
        go_roundg (ps.length - (i + 1))
        case measure => omega
        case rel => exact ⟨i + 1, _, by go_num, rfl, by omega, rfl, HFIN.out.1, (⟨HFIN.out.2, HBW.out⟩ : _ ∧ _)⟩
      · have hopd : (op == 1) = false := by simp; omega
        have HE : Hid (∀ mk : List UInt8, ((op = 2 ∧ mk = [32, 61, 32, 34]) ∨ (op = 3 ∧ mk = [32, 94, 61, 32, 34])) → pF (ps.take (i + 1)) = pre ps i ++ nm ++ mk ++ qL st ++ [34]) := fun mk hmk => by
          rw [HST.out]
          rcases hmk with ⟨rfl, rfl⟩ | ⟨rfl, rfl⟩
          · have e : pP ⟨nm, 2, lo, hi', st⟩ = nm ++ [32, 61, 32] ++ (34 :: (qL st ++ [34])) := by unfold pP; simp
            rw [e]; simp
          · have e : pP ⟨nm, 3, lo, hi', st⟩ = nm ++ [32, 94, 61, 32] ++ (34 :: (qL st ++ [34])) := by unfold pP; simp
            rw [e]; simp
        rcases hop with rfl | rfl
        · obtain ⟨B2, hB2⟩ : ∃ B2 : ByteArray, B2 = bs ++ ba nm ++ ⟨#[32, 61, 32, 34]⟩ := ⟨_, rfl⟩
          have hE := HE.out [32, 61, 32, 34] (by first | exact Or.inl ⟨rfl, rfl⟩ | exact Or.inr ⟨rfl, rfl⟩)
          have HB2 : Hid (B2 = ba (pre ps i ++ nm ++ [32, 61, 32, 34])) := by
            rw [Hid, hB2, HBS.out]
            apply ByteArray.ext
            simp [ba]
          have hB2z : B2.size ≤ 330000 := by
            rw [hB2, ByteArray.size_append, ByteArray.size_append]
            have : (⟨#[32, 61, 32, 34]⟩ : ByteArray).size ≤ 5 := by decide
            omega
          have HFE : Hid (∀ u : ByteArray, u = ba (pre ps i ++ nm ++ [32, 61, 32, 34] ++ qL st) → (u ++ ⟨#[34]⟩).size ≤ 400000 ∧ u ++ ⟨#[34]⟩ = ba (pF (ps.take (i + 1)))) := fun u hu => by
            have e : u ++ ⟨#[34]⟩ = ba (pF (ps.take (i + 1))) := by
              rw [hE, hu]
              apply ByteArray.ext
              simp [ba]
            refine ⟨?_, e⟩
            rw [e, ba_size]
            have := HSI.out
            omega
          have HQL : Hid (∀ k, (qL (st.take k)).length ≤ 2000) := fun k => by
            have h1 := qL_len (st.take k)
            have h2 : (st.take k).length ≤ st.length := List.length_take_le' _ _
            omega
          have HLB : Hid ((pre ps i ++ nm ++ [32, 61, 32, 34]).length ≤ 330000) := by
            have := HB2.out
            have h2 : B2.size = (pre ps i ++ nm ++ [32, 61, 32, 34]).length := by rw [this, ba_size]
            rw [Hid, ← h2]; exact hB2z
          generalize hLB : pre ps i ++ nm ++ [32, 61, 32, 34] = LB at HB2 HFE HLB
          have HBW : Hid (Below w.heap.size w W0) := HB0
          have HSB : Hid (∀ k (hk : k < (ba st).size), qL (st.take (k + 1)) = qL (st.take k) ++ (if isSign (ba st)[k] then [92, (ba st)[k]] else [(ba st)[k]])) := fun k hk => by
            have hk' : k < st.length := by rw [ba_size] at hk; exact hk
            have e : (ba st)[k] = st[k] := by
              have e1 : (ba st).data.toList[k]? = some (ba st)[k] := by rw [List.getElem?_eq_getElem (by simpa using hk)]; rfl
              rw [ba_list, List.getElem?_eq_getElem hk'] at e1
              exact (Option.some.inj e1).symm
            rw [List.take_succ_eq_append_getElem hk', qL_snoc]
            exact congrArg (fun z : UInt8 => qL (st.take k) ++ (if isSign z = true then [92, z] else [z])) e.symm
          have HSE : Hid (∀ k, ¬ k < (ba st).size → qL (st.take k) = qL st) := fun k hk => by
            rw [List.take_of_length_le (by rw [ba_size] at hk; omega)]
          have HXO : Hid (∀ k (hk : k < (ba st).size), (ba st).extract k (k + 1) = ba [(ba st)[k]]) := fun k hk => ext_one (ba st) k hk
          clear hE HE HST
          generalize ba nm = nmb at *
          generalize hsb : ba st = sb at *
          go_upto_region 14 with fail
          first
            | rw [← hB2]
            | skip
          clear hB2
          go_loopg [3, 6] sb.size (fun kx s3 s6 wq => ∃ (k : Nat) (u : ByteArray), s6 = .int .i64 (k : Int) ∧ s3 = .string u ∧ k ≤ sb.size ∧ kx = sb.size - k ∧ u.size ≤ 340000 ∧ W0 = wq ∧ Hid (u = ba (LB ++ qL (st.take k))))
          case atStart => exact ⟨0, B2, rfl, rfl, Nat.zero_le _, rfl, by omega, rfl, (by rw [HB2.out, List.take_zero, qL_nil, List.append_nil] : B2 = ba (LB ++ qL (st.take 0)))⟩
          case round =>
            obtain ⟨k, u, rfl, rfl, hk, rfl, hus, rfl, J⟩ := hrel
            by_cases hkl : k < sb.size
            · have HSK : Hid _ := HSB.out k hkl
              have hxo : sb.extract k (k + 1) = ba [sb[k]] := HXO.out k hkl
              have HQ1 : Hid ((LB ++ qL (st.take (k + 1))).length ≤ 340000) := by
                have h1 := HQL.out (k + 1)
                have h2 := HLB.out
                rw [Hid, List.length_append]; omega
              obtain ⟨x, hx⟩ : ∃ x, x = sb.extract k (k + 1) := ⟨_, rfl⟩
              have HX : Hid (x = ba [sb[k]]) := by rw [Hid, hx]; exact hxo
              have hxz : x.size ≤ 1 := by rw [HX.out, ba_size]; simp
              have hk1 : k ≤ k + 1 := by omega
              clear hxo
              have hsl : (Instr.slice 9 (Value.string sb) (some (.int .i64 (k : Int))) (some (.int .i64 ((k : Int) + 1))) none).run Tryz.prog W0 = .ok (.string x) W0 := by
                rw [hx, run_slice_string_if W0 9 sb .i64 .i64 (k : Int) ((k : Int) + 1) Tryz.underlying9, if_pos ⟨by omega, by omega⟩, if_pos ⟨by omega, by omega⟩]
                rfl
              clear hx
              cases hsg : isSign sb[k] with
              | true =>
                have HN : Hid ((u ++ ⟨#[92]⟩ ++ x).size ≤ 340000 ∧ u ++ ⟨#[92]⟩ ++ x = ba (LB ++ qL (st.take (k + 1)))) := by
                  have e : u ++ ⟨#[92]⟩ ++ x = ba (LB ++ qL (st.take (k + 1))) := by
                    rw [HSK.out, hsg, J.out, HX.out]
                    apply ByteArray.ext
                    simp [ba]
                  refine ⟨?_, e⟩
                  rw [e, ba_size]; exact HQ1.out
                have hw : ((sb[k].toNat : Int) == 34) = true ∨ (((sb[k].toNat : Int) == 34) = false ∧ ((sb[k].toNat : Int) == 92) = true) := by
                  unfold isSign at hsg; simp at hsg ⊢; omega
                clear hsg
                rcases hw with w1 | ⟨w1, w2⟩
                all_goals
                  go_wp2
                  go_roundg (sb.size - (k + 1))
                  case measure => omega
                  case rel => exact ⟨k + 1, _, by go_num, rfl, by omega, rfl, HN.out.1, rfl, HN.out.2⟩
              | false =>
                have HN : Hid ((u ++ x).size ≤ 340000 ∧ u ++ x = ba (LB ++ qL (st.take (k + 1)))) := by
                  have e : u ++ x = ba (LB ++ qL (st.take (k + 1))) := by
                    rw [HSK.out, hsg, J.out, HX.out]
                    apply ByteArray.ext
                    simp [ba]
                  refine ⟨?_, e⟩
                  rw [e, ba_size]; exact HQ1.out
                have hw : ((sb[k].toNat : Int) == 34) = false ∧ ((sb[k].toNat : Int) == 92) = false := by
                  unfold isSign at hsg; simp at hsg ⊢; omega
                obtain ⟨w1, w2⟩ := hw
                clear hsg
                go_wp2
                go_roundg (sb.size - (k + 1))
                case measure => omega
                case rel => exact ⟨k + 1, _, by go_num, rfl, by omega, rfl, HN.out.1, rfl, HN.out.2⟩
            · have HFIN : Hid _ := HFE.out u (by rw [J.out, HSE.out k hkl])
              go_wp2
              go_roundg (ps.length - (i + 1))
              case measure => omega
              case rel => exact ⟨i + 1, _, by go_num, rfl, by omega, rfl, HFIN.out.1, (⟨HFIN.out.2, HBW.out⟩ : _ ∧ _)⟩
        · obtain ⟨B2, hB2⟩ : ∃ B2 : ByteArray, B2 = bs ++ ba nm ++ ⟨#[32, 94, 61, 32, 34]⟩ := ⟨_, rfl⟩
          have hE := HE.out [32, 94, 61, 32, 34] (by first | exact Or.inl ⟨rfl, rfl⟩ | exact Or.inr ⟨rfl, rfl⟩)
          have HB2 : Hid (B2 = ba (pre ps i ++ nm ++ [32, 94, 61, 32, 34])) := by
            rw [Hid, hB2, HBS.out]
            apply ByteArray.ext
            simp [ba]
          have hB2z : B2.size ≤ 330000 := by
            rw [hB2, ByteArray.size_append, ByteArray.size_append]
            have : (⟨#[32, 94, 61, 32, 34]⟩ : ByteArray).size ≤ 5 := by decide
            omega
          have HFE : Hid (∀ u : ByteArray, u = ba (pre ps i ++ nm ++ [32, 94, 61, 32, 34] ++ qL st) → (u ++ ⟨#[34]⟩).size ≤ 400000 ∧ u ++ ⟨#[34]⟩ = ba (pF (ps.take (i + 1)))) := fun u hu => by
            have e : u ++ ⟨#[34]⟩ = ba (pF (ps.take (i + 1))) := by
              rw [hE, hu]
              apply ByteArray.ext
              simp [ba]
            refine ⟨?_, e⟩
            rw [e, ba_size]
            have := HSI.out
            omega
          have HQL : Hid (∀ k, (qL (st.take k)).length ≤ 2000) := fun k => by
            have h1 := qL_len (st.take k)
            have h2 : (st.take k).length ≤ st.length := List.length_take_le' _ _
            omega
          have HLB : Hid ((pre ps i ++ nm ++ [32, 94, 61, 32, 34]).length ≤ 330000) := by
            have := HB2.out
            have h2 : B2.size = (pre ps i ++ nm ++ [32, 94, 61, 32, 34]).length := by rw [this, ba_size]
            rw [Hid, ← h2]; exact hB2z
          generalize hLB : pre ps i ++ nm ++ [32, 94, 61, 32, 34] = LB at HB2 HFE HLB
          have HBW : Hid (Below w.heap.size w W0) := HB0
          have HSB : Hid (∀ k (hk : k < (ba st).size), qL (st.take (k + 1)) = qL (st.take k) ++ (if isSign (ba st)[k] then [92, (ba st)[k]] else [(ba st)[k]])) := fun k hk => by
            have hk' : k < st.length := by rw [ba_size] at hk; exact hk
            have e : (ba st)[k] = st[k] := by
              have e1 : (ba st).data.toList[k]? = some (ba st)[k] := by rw [List.getElem?_eq_getElem (by simpa using hk)]; rfl
              rw [ba_list, List.getElem?_eq_getElem hk'] at e1
              exact (Option.some.inj e1).symm
            rw [List.take_succ_eq_append_getElem hk', qL_snoc]
            exact congrArg (fun z : UInt8 => qL (st.take k) ++ (if isSign z = true then [92, z] else [z])) e.symm
          have HSE : Hid (∀ k, ¬ k < (ba st).size → qL (st.take k) = qL st) := fun k hk => by
            rw [List.take_of_length_le (by rw [ba_size] at hk; omega)]
          have HXO : Hid (∀ k (hk : k < (ba st).size), (ba st).extract k (k + 1) = ba [(ba st)[k]]) := fun k hk => ext_one (ba st) k hk
          clear hE HE HST
          generalize ba nm = nmb at *
          generalize hsb : ba st = sb at *
          go_upto_region 14 with fail
          first
            | rw [← hB2]
            | skip
          clear hB2
          go_loopg [3, 6] sb.size (fun kx s3 s6 wq => ∃ (k : Nat) (u : ByteArray), s6 = .int .i64 (k : Int) ∧ s3 = .string u ∧ k ≤ sb.size ∧ kx = sb.size - k ∧ u.size ≤ 340000 ∧ W0 = wq ∧ Hid (u = ba (LB ++ qL (st.take k))))
          case atStart => exact ⟨0, B2, rfl, rfl, Nat.zero_le _, rfl, by omega, rfl, (by rw [HB2.out, List.take_zero, qL_nil, List.append_nil] : B2 = ba (LB ++ qL (st.take 0)))⟩
          case round =>
            obtain ⟨k, u, rfl, rfl, hk, rfl, hus, rfl, J⟩ := hrel
            by_cases hkl : k < sb.size
            · have HSK : Hid _ := HSB.out k hkl
              have hxo : sb.extract k (k + 1) = ba [sb[k]] := HXO.out k hkl
              have HQ1 : Hid ((LB ++ qL (st.take (k + 1))).length ≤ 340000) := by
                have h1 := HQL.out (k + 1)
                have h2 := HLB.out
                rw [Hid, List.length_append]; omega
              obtain ⟨x, hx⟩ : ∃ x, x = sb.extract k (k + 1) := ⟨_, rfl⟩
              have HX : Hid (x = ba [sb[k]]) := by rw [Hid, hx]; exact hxo
              have hxz : x.size ≤ 1 := by rw [HX.out, ba_size]; simp
              have hk1 : k ≤ k + 1 := by omega
              clear hxo
              have hsl : (Instr.slice 9 (Value.string sb) (some (.int .i64 (k : Int))) (some (.int .i64 ((k : Int) + 1))) none).run Tryz.prog W0 = .ok (.string x) W0 := by
                rw [hx, run_slice_string_if W0 9 sb .i64 .i64 (k : Int) ((k : Int) + 1) Tryz.underlying9, if_pos ⟨by omega, by omega⟩, if_pos ⟨by omega, by omega⟩]
                rfl
              clear hx
              cases hsg : isSign sb[k] with
              | true =>
                have HN : Hid ((u ++ ⟨#[92]⟩ ++ x).size ≤ 340000 ∧ u ++ ⟨#[92]⟩ ++ x = ba (LB ++ qL (st.take (k + 1)))) := by
                  have e : u ++ ⟨#[92]⟩ ++ x = ba (LB ++ qL (st.take (k + 1))) := by
                    rw [HSK.out, hsg, J.out, HX.out]
                    apply ByteArray.ext
                    simp [ba]
                  refine ⟨?_, e⟩
                  rw [e, ba_size]; exact HQ1.out
                have hw : ((sb[k].toNat : Int) == 34) = true ∨ (((sb[k].toNat : Int) == 34) = false ∧ ((sb[k].toNat : Int) == 92) = true) := by
                  unfold isSign at hsg; simp at hsg ⊢; omega
                clear hsg
                rcases hw with w1 | ⟨w1, w2⟩
                all_goals
                  go_wp2
                  go_roundg (sb.size - (k + 1))
                  case measure => omega
                  case rel => exact ⟨k + 1, _, by go_num, rfl, by omega, rfl, HN.out.1, rfl, HN.out.2⟩
              | false =>
                have HN : Hid ((u ++ x).size ≤ 340000 ∧ u ++ x = ba (LB ++ qL (st.take (k + 1)))) := by
                  have e : u ++ x = ba (LB ++ qL (st.take (k + 1))) := by
                    rw [HSK.out, hsg, J.out, HX.out]
                    apply ByteArray.ext
                    simp [ba]
                  refine ⟨?_, e⟩
                  rw [e, ba_size]; exact HQ1.out
                have hw : ((sb[k].toNat : Int) == 34) = false ∧ ((sb[k].toNat : Int) == 92) = false := by
                  unfold isSign at hsg; simp at hsg ⊢; omega
                obtain ⟨w1, w2⟩ := hw
                clear hsg
                go_wp2
                go_roundg (sb.size - (k + 1))
                case measure => omega
                case rel => exact ⟨k + 1, _, by go_num, rfl, by omega, rfl, HN.out.1, rfl, HN.out.2⟩
            · have HFIN : Hid _ := HFE.out u (by rw [J.out, HSE.out k hkl])
              go_wp2
              go_roundg (ps.length - (i + 1))
              case measure => omega
              case rel => exact ⟨i + 1, _, by go_num, rfl, by omega, rfl, HFIN.out.1, (⟨HFIN.out.2, HBW.out⟩ : _ ∧ _)⟩
end Go.Proofs.YtcckoncgfmbhiaaGreatDoor

/- Numbers, ints and texts as bytes, in plain lists: how they are written, how they are read, and that each has one spelling; no program in sight. -/
namespace Go.Proofs.YtcckoncgfmbhiaaGreatDoor
set_option linter.unusedVariables false

/-- A number's bytes, in at most f steps behind the first. -/
def numF : Nat → Nat → List UInt8
  | 0, n => [UInt8.ofNat n]
  | f + 1, n => if n < 128 then [UInt8.ofNat n] else UInt8.ofNat (n % 128 + 128) :: numF f (n / 128)

/-- A number's bytes. -/
def numB (n : Nat) : List UInt8 := numF n n

theorem numF_enough (n f g : Nat) (hf : n ≤ f) (hg : n ≤ g) : numF f n = numF g n := by
  induction n using Nat.strongRecOn generalizing f g with
  | _ n ih =>
    by_cases hn : n < 128
    · cases f <;> cases g <;> simp [numF, hn]
    · cases f with
      | zero => omega
      | succ f =>
        cases g with
        | zero => omega
        | succ g => simp only [numF, if_neg hn]; rw [ih (n / 128) (by omega) f g (by omega) (by omega)]

theorem numB_small (n : Nat) (h : n < 128) : numB n = [UInt8.ofNat n] := by
  cases n with
  | zero => rfl
  | succ n => simp only [numB, numF, if_pos h]
theorem numB_big (n : Nat) (h : ¬ n < 128) : numB n = UInt8.ofNat (n % 128 + 128) :: numB (n / 128) := by
  cases n with
  | zero => omega
  | succ n => simp only [numB, numF, if_neg h]; rw [numF_enough ((n + 1) / 128) n ((n + 1) / 128) (by omega) (Nat.le_refl _)]

theorem numB_len (k n : Nat) (h : n < 128 ^ (k + 1)) : (numB n).length ≤ k + 1 := by
  induction k generalizing n with
  | zero => rw [numB_small n (by simpa using h)]; simp
  | succ k ih =>
    by_cases hn : n < 128
    · rw [numB_small n hn]; simp
    · rw [numB_big n hn]
      have := ih (n / 128) (by rw [Nat.pow_succ] at h; omega)
      simp; omega

theorem numB_len10 (n : Nat) (h : n < 18446744073709551616) : (numB n).length ≤ 10 :=
  numB_len 9 n (Nat.lt_of_lt_of_le h (by decide))

theorem numB_pos (n : Nat) : 0 < (numB n).length := by
  by_cases hn : n < 128
  · rw [numB_small n hn]; simp
  · rw [numB_big n hn]; simp

/-- What a reader answers that has read i bytes of a number, acc so far: the value, how many more bytes it takes, the code. -/
def rdNum (i acc : Nat) : List UInt8 → Nat × Nat × Nat
  | [] => (0, 0, 10)
  | c :: l =>
    if (i = 9 ∧ 1 < c.toNat) ∨ (0 < i ∧ c.toNat = 0) then (0, 0, 11)
    else if c.toNat < 128 then (acc + c.toNat % 128 * 128 ^ i, 1, 0)
    else ((rdNum (i + 1) (acc + c.toNat % 128 * 128 ^ i) l).1, (rdNum (i + 1) (acc + c.toNat % 128 * 128 ^ i) l).2.1 + 1, (rdNum (i + 1) (acc + c.toNat % 128 * 128 ^ i) l).2.2)

theorem rd_nil (i acc : Nat) : rdNum i acc [] = (0, 0, 10) := rfl
theorem rd_bad (i acc : Nat) (c : UInt8) (l : List UInt8) (h : (i = 9 ∧ 1 < c.toNat) ∨ (0 < i ∧ c.toNat = 0)) : rdNum i acc (c :: l) = (0, 0, 11) := by
  rw [rdNum, if_pos h]
theorem rd_last (i acc : Nat) (c : UInt8) (l : List UInt8) (h : ¬ ((i = 9 ∧ 1 < c.toNat) ∨ (0 < i ∧ c.toNat = 0))) (hc : c.toNat < 128) :
    rdNum i acc (c :: l) = (acc + c.toNat % 128 * 128 ^ i, 1, 0) := by
  rw [rdNum, if_neg h, if_pos hc]
theorem rd_more (i acc : Nat) (c : UInt8) (l : List UInt8) (h : ¬ ((i = 9 ∧ 1 < c.toNat) ∨ (0 < i ∧ c.toNat = 0))) (hc : ¬ c.toNat < 128) :
    rdNum i acc (c :: l) = ((rdNum (i + 1) (acc + c.toNat % 128 * 128 ^ i) l).1, (rdNum (i + 1) (acc + c.toNat % 128 * 128 ^ i) l).2.1 + 1, (rdNum (i + 1) (acc + c.toNat % 128 * 128 ^ i) l).2.2) := by
  rw [rdNum, if_neg h, if_neg hc]

theorem ofNat_toNat (n : Nat) (h : n < 256) : (UInt8.ofNat n).toNat = n := by simp; omega

/-- What is written is read again. -/
theorem rd_numB (n : Nat) (i acc : Nat) (rest : List UInt8) (hi : i ≤ 9) (hn : n * 128 ^ i < 18446744073709551616) (h0 : 0 < i → 0 < n) :
    rdNum i acc (numB n ++ rest) = (acc + n * 128 ^ i, (numB n).length, 0) := by
  induction n using Nat.strongRecOn generalizing i acc with
  | _ n ih =>
    by_cases hs : n < 128
    · rw [numB_small n hs]
      have e := ofNat_toNat n (by omega)
      have hb : ¬ ((i = 9 ∧ 1 < (UInt8.ofNat n).toNat) ∨ (0 < i ∧ (UInt8.ofNat n).toNat = 0)) := by
        rw [e]
        rintro (⟨rfl, h⟩ | ⟨h, rfl⟩)
        · have : (128 : Nat) ^ 9 = 9223372036854775808 := by decide
          rw [this] at hn; omega
        · have := h0 h; omega
      show rdNum i acc (UInt8.ofNat n :: rest) = _
      rw [rd_last i acc _ rest hb (by rw [e]; exact hs), e, Nat.mod_eq_of_lt hs]; rfl
    · rw [numB_big n hs]
      have e := ofNat_toNat (n % 128 + 128) (by omega)
      have hlt : i < 9 := by
        rcases Nat.lt_or_ge i 9 with h | h
        · exact h
        · have e9 : i = 9 := by omega
          subst e9
          have : (128 : Nat) ^ 9 = 9223372036854775808 := by decide
          rw [this] at hn; omega
      have hb : ¬ ((i = 9 ∧ 1 < (UInt8.ofNat (n % 128 + 128)).toNat) ∨ (0 < i ∧ (UInt8.ofNat (n % 128 + 128)).toNat = 0)) := by
        rw [e]; omega
      show rdNum i acc (UInt8.ofNat (n % 128 + 128) :: (numB (n / 128) ++ rest)) = _
      rw [rd_more i acc _ _ hb (by rw [e]; omega), e]
      have em : (n % 128 + 128) % 128 = n % 128 := by omega
      rw [em]
      have hp : n / 128 * 128 ^ (i + 1) ≤ n * 128 ^ i := by
        rw [Nat.pow_succ, Nat.mul_comm (128 ^ i) 128, ← Nat.mul_assoc]
        exact Nat.mul_le_mul_right _ (Nat.div_mul_le_self n 128)
      have hr := ih (n / 128) (by omega) (i + 1) (acc + n % 128 * 128 ^ i) (by omega) (Nat.lt_of_le_of_lt hp hn) (by intro _; omega)
      rw [hr]
      have hsum : acc + n % 128 * 128 ^ i + n / 128 * 128 ^ (i + 1) = acc + n * 128 ^ i := by
        have h1 : n = n % 128 + n / 128 * 128 := by omega
        have h2 : n * 128 ^ i = n % 128 * 128 ^ i + n / 128 * 128 ^ (i + 1) := by
          conv => lhs; rw [h1]
          rw [Nat.add_mul, Nat.mul_assoc, Nat.pow_succ, Nat.mul_comm 128 (128 ^ i)]
        omega
      simp only [hsum, List.length_cons]

theorem rd_back (n : Nat) (rest : List UInt8) (hn : n < 18446744073709551616) : rdNum 0 0 (numB n ++ rest) = (n, (numB n).length, 0) := by
  have := rd_numB n 0 0 rest (by omega) (by simpa using hn) (by omega)
  simpa using this

/-- An error's value is 0. -/
theorem rd_err (i acc : Nat) (l : List UInt8) (h : (rdNum i acc l).2.2 ≠ 0) : (rdNum i acc l).1 = 0 := by
  induction l generalizing i acc with
  | nil => rfl
  | cons c l ih =>
    by_cases hb : (i = 9 ∧ 1 < c.toNat) ∨ (0 < i ∧ c.toNat = 0)
    · rw [rd_bad i acc c l hb]
    · by_cases hc : c.toNat < 128
      · rw [rd_last i acc c l hb hc] at h; simp at h
      · rw [rd_more i acc c l hb hc] at h ⊢; exact ih _ _ h

theorem rd_code (i acc : Nat) (l : List UInt8) : (rdNum i acc l).2.2 = 0 ∨ (rdNum i acc l).2.2 = 10 ∨ (rdNum i acc l).2.2 = 11 := by
  induction l generalizing i acc with
  | nil => right; left; rfl
  | cons c l ih =>
    by_cases hb : (i = 9 ∧ 1 < c.toNat) ∨ (0 < i ∧ c.toNat = 0)
    · rw [rd_bad i acc c l hb]; right; right; rfl
    · by_cases hc : c.toNat < 128
      · rw [rd_last i acc c l hb hc]; left; rfl
      · rw [rd_more i acc c l hb hc]; exact ih _ _

theorem rd_taken (i acc : Nat) (l : List UInt8) : (rdNum i acc l).2.1 ≤ l.length := by
  induction l generalizing i acc with
  | nil => exact Nat.le_refl _
  | cons c l ih =>
    by_cases hb : (i = 9 ∧ 1 < c.toNat) ∨ (0 < i ∧ c.toNat = 0)
    · rw [rd_bad i acc c l hb]; simp
    · by_cases hc : c.toNat < 128
      · rw [rd_last i acc c l hb hc]; simp
      · rw [rd_more i acc c l hb hc]; have := ih (i + 1) (acc + c.toNat % 128 * 128 ^ i); simp; omega

/-- Bytes that are read as a number are its bytes; and the number is below 2^64. -/
theorem rd_one (i acc : Nat) (l : List UInt8) (hi : i ≤ 9) (h : (rdNum i acc l).2.2 = 0) :
    ∃ n, (rdNum i acc l).1 = acc + n * 128 ^ i ∧ n * 128 ^ i < 18446744073709551616 ∧ l.take (rdNum i acc l).2.1 = numB n ∧ (0 < i → 0 < n) := by
  induction l generalizing i acc with
  | nil => simp [rd_nil] at h
  | cons c l ih =>
    by_cases hb : (i = 9 ∧ 1 < c.toNat) ∨ (0 < i ∧ c.toNat = 0)
    · rw [rd_bad i acc c l hb] at h; simp at h
    · have hpow : i ≤ 8 → (128 : Nat) ^ i ≤ 72057594037927936 := fun h8 => by
        have : (128 : Nat) ^ i ≤ 128 ^ 8 := Nat.pow_le_pow_right (by omega) h8
        have e : (128 : Nat) ^ 8 = 72057594037927936 := by decide
        omega
      have h9 : (128 : Nat) ^ 9 = 9223372036854775808 := by decide
      by_cases hc : c.toNat < 128
      · rw [rd_last i acc c l hb hc]
        refine ⟨c.toNat, by rw [Nat.mod_eq_of_lt hc], ?_, ?_, by omega⟩
        · rcases Nat.lt_or_ge i 9 with h8 | h8
          · have hp := hpow (by omega)
            calc c.toNat * 128 ^ i ≤ 127 * 72057594037927936 := Nat.mul_le_mul (by omega) hp
              _ < 18446744073709551616 := by decide
          · have e9 : i = 9 := by omega
            subst e9
            rw [h9]
            have : c.toNat ≤ 1 := by omega
            omega
        · rw [numB_small c.toNat hc]; simp
      · rw [rd_more i acc c l hb hc] at h ⊢
        have hi8 : i < 9 := by
          rcases Nat.lt_or_ge i 9 with h8 | h8
          · exact h8
          · exfalso; apply hb; left; exact ⟨by omega, by omega⟩
        obtain ⟨m, hm1, hm2, hm3, hm4⟩ := ih (i + 1) (acc + c.toNat % 128 * 128 ^ i) (by omega) h
        have hmp := hm4 (by omega)
        have hc256 : c.toNat < 256 := c.toNat_lt
        refine ⟨c.toNat % 128 + 128 * m, ?_, ?_, ?_, by omega⟩
        · dsimp only; rw [hm1, Nat.add_mul, Nat.pow_succ, Nat.mul_comm 128 m, Nat.mul_assoc m 128, Nat.mul_comm 128 (128 ^ i)]; omega
        · have hk : 128 ^ i * 128 = 128 ^ (i + 1) := (Nat.pow_succ ..).symm
          have e1 : (c.toNat % 128 + 128 * m) * 128 ^ i = c.toNat % 128 * 128 ^ i + m * 128 ^ (i + 1) := by
            rw [Nat.add_mul, ← hk, Nat.mul_comm 128 m, Nat.mul_assoc m 128, Nat.mul_comm 128 (128 ^ i)]
          have e2 : c.toNat % 128 * 128 ^ i < 128 ^ (i + 1) := by
            rw [← hk, Nat.mul_comm (128 ^ i) 128]
            exact Nat.mul_lt_mul_of_pos_right (by omega) (Nat.pow_pos (by omega))
          -- 128^(i+1) divides 2^64 or i + 1 = 9 .. : both sides are multiples of 2^(7(i+1)) or 2^63
          have e3 : m * 128 ^ (i + 1) + 128 ^ (i + 1) ≤ 18446744073709551616 := by
            have hd : (128 : Nat) ^ (i + 1) ∣ 18446744073709551616 := by
              have : i + 1 ≤ 9 := by omega
              have h2 : (128 : Nat) ^ (i + 1) ∣ 128 ^ 9 := Nat.pow_dvd_pow 128 this
              exact Nat.dvd_trans h2 ⟨2, by decide⟩
            obtain ⟨q, hq⟩ := hd
            rw [hq] at hm2 ⊢
            rw [Nat.mul_comm m] at hm2 ⊢
            have hlt : m < q := Nat.lt_of_mul_lt_mul_left hm2
            calc 128 ^ (i + 1) * m + 128 ^ (i + 1) = 128 ^ (i + 1) * (m + 1) := by rw [Nat.mul_add, Nat.mul_one]
              _ ≤ 128 ^ (i + 1) * q := Nat.mul_le_mul_left _ hlt
          omega
        · dsimp only
          rw [List.take_succ_cons, hm3, numB_big (c.toNat % 128 + 128 * m) (by omega)]
          have d1 : (c.toNat % 128 + 128 * m) % 128 + 128 = c.toNat := by omega
          have d2 : (c.toNat % 128 + 128 * m) / 128 = m := by omega
          rw [d1, d2]
          congr 1
          simp

/-- Bytes of a number that are cut off lack bytes, all of them taken. -/
theorem rd_cut (n : Nat) (i acc k : Nat) (hi : i ≤ 9) (hn : n * 128 ^ i < 18446744073709551616) (hk : k < (numB n).length) :
    rdNum i acc ((numB n).take k) = (0, k, 10) := by
  induction n using Nat.strongRecOn generalizing i acc k with
  | _ n ih =>
    cases k with
    | zero => simp [rd_nil]
    | succ k =>
      by_cases hs : n < 128
      · rw [numB_small n hs] at hk; simp at hk
      · rw [numB_big n hs] at hk ⊢
        have e := ofNat_toNat (n % 128 + 128) (by omega)
        have hlt : i < 9 := by
          rcases Nat.lt_or_ge i 9 with h | h
          · exact h
          · have e9 : i = 9 := by omega
            subst e9
            have : (128 : Nat) ^ 9 = 9223372036854775808 := by decide
            rw [this] at hn; omega
        have hb : ¬ ((i = 9 ∧ 1 < (UInt8.ofNat (n % 128 + 128)).toNat) ∨ (0 < i ∧ (UInt8.ofNat (n % 128 + 128)).toNat = 0)) := by
          rw [e]; omega
        rw [List.take_succ_cons, rd_more i acc _ _ hb (by rw [e]; omega), e]
        have hp : n / 128 * 128 ^ (i + 1) ≤ n * 128 ^ i := by
          rw [Nat.pow_succ, Nat.mul_comm (128 ^ i) 128, ← Nat.mul_assoc]
          exact Nat.mul_le_mul_right _ (Nat.div_mul_le_self n 128)
        rw [ih (n / 128) (by omega) (i + 1) _ k (by omega) (Nat.lt_of_le_of_lt hp hn) (by simpa using hk)]

/-- Behind i bytes of L, acc so far, it goes on as it began. -/
def RS (L : List UInt8) (i acc : Nat) : Prop :=
  rdNum 0 0 L = ((rdNum i acc (L.drop i)).1, (rdNum i acc (L.drop i)).2.1 + i, (rdNum i acc (L.drop i)).2.2)
theorem rs_start (L : List UInt8) : RS L 0 0 := by unfold RS; simp
theorem rs_end {L : List UInt8} {i acc : Nat} (h : RS L i acc) (hL : L.length ≤ i) : rdNum 0 0 L = (0, i, 10) := by
  unfold RS at h; rw [h, List.drop_eq_nil_of_le hL, rd_nil]; simp
theorem drop_at {L : List UInt8} {i : Nat} {c : UInt8} (hc : L[i]? = some c) : L.drop i = c :: L.drop (i + 1) := by
  obtain ⟨hi, e⟩ := List.getElem?_eq_some_iff.1 hc
  rw [← e]; exact List.drop_eq_getElem_cons hi
theorem rs_bad {L : List UInt8} {i acc : Nat} {c : UInt8} (h : RS L i acc) (hc : L[i]? = some c) (hb : (i = 9 ∧ 1 < c.toNat) ∨ (0 < i ∧ c.toNat = 0)) : rdNum 0 0 L = (0, i, 11) := by
  unfold RS at h; rw [h, drop_at hc, rd_bad i acc c _ hb]; simp
theorem rs_last {L : List UInt8} {i acc : Nat} {c : UInt8} (h : RS L i acc) (hc : L[i]? = some c) (hb : ¬ ((i = 9 ∧ 1 < c.toNat) ∨ (0 < i ∧ c.toNat = 0))) (hl : c.toNat < 128) :
    rdNum 0 0 L = (acc + c.toNat % 128 * 128 ^ i, i + 1, 0) := by
  unfold RS at h; rw [h, drop_at hc, rd_last i acc c _ hb hl]; simp; omega
theorem rs_more {L : List UInt8} {i acc : Nat} {c : UInt8} (h : RS L i acc) (hc : L[i]? = some c) (hb : ¬ ((i = 9 ∧ 1 < c.toNat) ∨ (0 < i ∧ c.toNat = 0))) (hl : ¬ c.toNat < 128) :
    RS L (i + 1) (acc + c.toNat % 128 * 128 ^ i) := by
  unfold RS at *; rw [h, drop_at hc, rd_more i acc c _ hb hl]; simp; omega

theorem acc_lt {i acc : Nat} (c : UInt8) (h : acc < 128 ^ i) : acc + c.toNat % 128 * 128 ^ i < 128 ^ (i + 1) := by
  have : c.toNat % 128 * 128 ^ i ≤ 127 * 128 ^ i := Nat.mul_le_mul_right _ (by omega)
  rw [Nat.pow_succ]; omega

/-- The bytes are put together: an or of parts that don't overlap is their sum. -/
theorem or_sum {i acc b : Nat} (h : acc < 128 ^ i) : acc ||| (b * 128 ^ i) = acc + b * 128 ^ i := by
  have e : (128 : Nat) ^ i = 2 ^ (7 * i) := by rw [Nat.pow_mul]
  rw [e] at h ⊢
  rw [Nat.or_comm, Nat.mul_comm b, ← Nat.two_pow_add_eq_or_of_lt h b, Nat.add_comm]

/-- The number of an int: 2n, or -2n - 1. -/
def zig (n : Int) : Nat := if 0 ≤ n then (2 * n).toNat else (-2 * n - 1).toNat
/-- The int of a number. -/
def zag (m : Nat) : Int := if m % 2 = 1 then -(m / 2 : Nat) - 1 else (m / 2 : Nat)
theorem zag_zig (n : Int) : zag (zig n) = n := by
  unfold zag zig; split <;> split <;> omega
theorem zig_lt (n : Int) (h0 : -9223372036854775808 ≤ n) (h1 : n ≤ 9223372036854775807) : zig n < 18446744073709551616 := by
  unfold zig; split <;> omega

theorem numB_inj (a b : Nat) (ha : a < 18446744073709551616) (hb : b < 18446744073709551616) (h : numB a = numB b) : a = b := by
  have h1 := rd_back a [] ha
  have h2 := rd_back b [] hb
  rw [h] at h1
  rw [h2] at h1
  exact (Prod.mk.inj h1).1.symm

theorem numB_mono (a b : Nat) (h : a ≤ b) : (numB a).length ≤ (numB b).length := by
  induction b using Nat.strongRecOn generalizing a with
  | _ b ih =>
    by_cases hb : b < 128
    · rw [numB_small a (by omega), numB_small b hb]; simp
    · by_cases ha : a < 128
      · rw [numB_small a ha]; exact numB_pos b
      · rw [numB_big a ha, numB_big b hb]
        have := ih (b / 128) (by omega) (a / 128) (by omega)
        simpa using this

end Go.Proofs.YtcckoncgfmbhiaaGreatDoor

/- What code.Writer does: its bytes are those that were there, and the thing's. -/
namespace Go.Proofs.YtcckoncgfmbhiaaGreatDoor
open Go.ChangeShapes Go.WideShapes Go.ChangeAt Go.RowKit
set_option linter.unusedVariables false

/-- A byte as a cell. -/
def cellU8 (c : UInt8) : Value := .int .u8 (c.toNat : Int)

/-- A writer at block p whose slice is v and whose bytes are l; its memory lies from block B on. -/
structure Wr (B : Nat) (w : World) (p : Nat) (v : Value) (l : List UInt8) : Prop where
  lo : B ≤ p
  box : w.heap[p]? = some (.cells #[v] 43 (0, 0))
  row : w.ownsRow B 5 1 v l.length (l.map cellU8)
  apart : v.ownBlock ≠ some p

/-- What a call on the writer at p (its slice v, then v') leaves as it was. -/
structure Kept (w w' : World) (p : Nat) (v v' : Value) : Prop where
  os : w'.os = w.os
  tape : w'.tape = w.tape
  output : w'.output = w.output
  size : w.heap.size ≤ w'.heap.size
  block : ∀ k, k < w.heap.size → k ≠ p → some k ≠ v.ownBlock → w'.heap[k]? = w.heap[k]?
  own : ∀ k, v'.ownBlock = some k → v.ownBlock = some k ∨ w.heap.size ≤ k

theorem Kept.refl (w : World) (p : Nat) (v : Value) : Kept w w p v v := ⟨rfl, rfl, rfl, Nat.le_refl _, fun _ _ _ _ => rfl, fun _ h => .inl h⟩
theorem Kept.trans {a b c : World} {p : Nat} {u v x : Value} (h : Kept a b p u v) (k : Kept b c p v x) : Kept a c p u x :=
  ⟨k.os.trans h.os, k.tape.trans h.tape, k.output.trans h.output, Nat.le_trans h.size k.size,
   fun i hi hp hu => (k.block i (Nat.lt_of_lt_of_le hi h.size) hp (fun e => by
     rcases h.own i e.symm with h1 | h1
     · exact hu h1.symm
     · omega)).trans (h.block i hi hp hu),
   fun i hi => by
     rcases k.own i hi with h1 | h1
     · exact h.own i h1
     · exact .inr (Nat.le_trans h.size h1)⟩
theorem Kept.below {B : Nat} {a w w' : World} {p : Nat} {v v' : Value} {l : List UInt8} (h : Kept w w' p v v') (hW : Wr B w p v l) (hb : Below B a w) (hB : B ≤ w.heap.size) : Below B a w' :=
  hb.trans ⟨h.os, h.tape, h.output, h.size, fun k hk => h.block k (by omega) (by have := hW.lo; omega) (fun e => by have := (hW.row.lt k e.symm).1; omega)⟩

theorem Wr.lt {B : Nat} {w : World} {p : Nat} {v : Value} {l : List UInt8} (h : Wr B w p v l) : p < w.heap.size := lt_of_block h.box

/-- One append and its store: the writer behind it. -/
theorem Wr.step {B : Nat} {w w1 w2 : World} {p : Nat} {v v' : Value} {l news : List UInt8} {n : Nat} (h : Wr B w p v l) (hB : B ≤ w.heap.size)
    (hg0 : w.grownBy w1 none) (hn : n = l.length + news.length) (ha : Appended B 5 w1 w2 v v' n (l.map cellU8 ++ news.map cellU8)) :
    Wr B (w2.setCell ⟨p, 0, none⟩ v') p v' (l ++ news) ∧ Kept w (w2.setCell ⟨p, 0, none⟩ v') p v v' ∧ B ≤ (w2.setCell ⟨p, 0, none⟩ v').heap.size := by
  have hp := h.lt
  have hg := ha.grown
  have hap : v'.ownBlock ≠ some p := fun e => by
    rcases ha.new p e with h1 | h1
    · exact h.apart h1
    · have := hg0.size; omega
  have hbox : w2.heap[p]? = some (.cells #[v] 43 (0, 0)) :=
    ((hg.block p (Nat.lt_of_lt_of_le hp hg0.size) (fun e => h.apart e.symm)).trans (hg0.block p hp (by simp))).trans h.box
  have hsz : (w2.setCell ⟨p, 0, none⟩ v').heap.size = w2.heap.size := by simp [World.setCell]
  refine ⟨⟨h.lo, one_setCell hbox, ?_, hap⟩, ?_, ?_⟩
  · have := ownsRow_setCell_other ha.row (a := ⟨p, 0, none⟩) hap v'
    subst hn
    simpa using this
  · refine ⟨hg.os.trans hg0.os, hg.tape.trans hg0.tape, hg.output.trans hg0.output, by rw [hsz]; exact Nat.le_trans hg0.size hg.size, fun k hk hkp hkv => ?_, fun k hk => ?_⟩
    · rw [Below.heap_setCell _ _ _ _ (by simpa using hkp)]
      exact (hg.block k (Nat.lt_of_lt_of_le hk hg0.size) hkv).trans (hg0.block k hk (by simp))
    · rcases ha.new k hk with h1 | h1
      · exact .inl h1
      · exact .inr (Nat.le_trans hg0.size h1)
  · rw [hsz]; exact Nat.le_trans hB (Nat.le_trans hg0.size hg.size)

theorem Wr.step1 {B : Nat} {w w1 w2 : World} {p : Nat} {v v' : Value} {l : List UInt8} {c : UInt8} (h : Wr B w p v l) (hB : B ≤ w.heap.size)
    (hg0 : w.grownBy w1 none) (ha : Appended B 5 w1 w2 v v' (l.length + 1) (l.map cellU8 ++ [cellU8 c])) :
    Wr B (w2.setCell ⟨p, 0, none⟩ v') p v' (l ++ [c]) ∧ Kept w (w2.setCell ⟨p, 0, none⟩ v') p v v' ∧ B ≤ (w2.setCell ⟨p, 0, none⟩ v').heap.size :=
  h.step (news := [c]) hB hg0 rfl ha

theorem Wr.box2 {B : Nat} {w w1 w2 : World} {p : Nat} {v v' : Value} {l : List UInt8} {n : Nat} {xs : List Value} (h : Wr B w p v l)
    (hg0 : w.grownBy w1 none) (ha : Appended B 5 w1 w2 v v' n xs) : w2.heap[p]? = some (.cells #[v] 43 (0, 0)) :=
  ((ha.grown.block p (Nat.lt_of_lt_of_le h.lt hg0.size) (fun e => h.apart e.symm)).trans (hg0.block p h.lt (by simp))).trans h.box

theorem Wr.shape {B : Nat} {w : World} {p : Nat} {v : Value} {l : List UInt8} (h : Wr B w p v l) : ∃ a c, v = .slice a l.length c := by
  rcases h.row.2 with ⟨rfl, hn⟩ | ⟨g, cap, cur, rfl, _⟩
  · exact ⟨none, 0, by rw [hn]⟩
  · exact ⟨_, _, rfl⟩

theorem Tryz.info5 : (Tryz.prog.info? 5).map (fun i => (i.zero, i.size, i.bytes)) = some (some (.int .u8 0), 1, 1) := by kernel_rfl

theorem or128 (n : Nat) : bits .or .u8 ((n : Int) % 256) 128 = ((UInt8.ofNat (n % 128 + 128)).toNat : Int) := by
  have h : ∀ x : Fin 256, bits .or .u8 (x.val : Int) 128 = ((x.val % 128 + 128 : Nat) : Int) := by decide +kernel
  have e : (n : Int) % 256 = ((n % 256 : Nat) : Int) := by omega
  rw [e, h ⟨n % 256, by omega⟩, ofNat_toNat _ (by omega)]
  have : n % 256 % 128 = n % 128 := by omega
  simp only [this]

theorem wrap128 (n : Nat) (h : n < 128) : IntKind.u8.wrap (n : Int) = ((UInt8.ofNat n).toNat : Int) := by
  rw [IntKind.wrap_u8, ofNat_toNat n (by omega)]; omega

theorem src_one (w : World) (x : Int) (c : UInt8) (h : x = (c.toNat : Int)) :
    Src Tryz.prog 1 41 (.slice (some ⟨w.heap.size, 0, none⟩) 1 1) 1 [cellU8 c] (w.alloc (.cells #[.int .u8 x] 5)) := by
  subst h
  refine Src.ofSlice _ Tryz.underlying41 _ 1 1 _ rfl ?_ ?_
  · intro j u hu
    match j, hu with
    | 0, hu => simp at hu; subst hu; simp [Addr.add, World.cell?_alloc_new, cellU8]
  · intro u hu; simp at hu; subst hu; rfl

set_option maxRecDepth 100000 in
theorem wnumber_any (B p : Nat) (v : Value) (l : List UInt8) (n : Nat) (w : World) (h : Wr B w p v l) (hB : B ≤ w.heap.size) (hn : n < 18446744073709551616) (hl : l.length ≤ 1000000) :
    Calls Tryz.prog 30 #[.pointer (some ⟨p, 0, none⟩), .int .u64 n] w
      fun e w' => e = .returned (.tuple #[]) ∧ ∃ v', Wr B w' p v' (l ++ numB n) ∧ Kept w w' p v v' := by
  obtain ⟨i0, hi, hz0, hz1, hz2⟩ := info_parts Tryz.info5
  have h10 := numB_len10 n hn
  go_enter Tryz.func30, Tryz.ntmps30
  go_wp2
  go_loopw [1] (fun x wr => ∃ (m : Nat) (acc : List UInt8) (u : Value), x = .int .u64 m ∧ m < 18446744073709551616 ∧ acc ++ numB m = l ++ numB n ∧ Wr B wr p u acc ∧ Kept w wr p v u ∧ B ≤ wr.heap.size)
    (fun x _ => (intOf x).toNat)
  case atStart => exact ⟨n, l, v, rfl, hn, rfl, h, Kept.refl _ _ _, hB⟩
  case round =>
    obtain ⟨m, acc, u, rfl, hm, hacc, hW, hK, hBr⟩ := hrel
    have hlen : acc.length + (numB m).length = l.length + (numB n).length := by simpa using congrArg List.length hacc
    have hpos := numB_pos m
    have hacl : acc.length < 1000011 := by omega
    clear hlen hpos
    have hcell := cell_of_one hW.box
    have hfree := free_of_one hW.box
    have hplt := hW.lt
    have HA : Hid (acc ++ numB m = l ++ numB n) := hacc
    clear hacc
    obtain ⟨ua, uc, hu⟩ := hW.shape
    subst hu
    by_cases hlt : 128 ≤ m
    · obtain ⟨c, hcd⟩ : ∃ c, c = UInt8.ofNat (m % 128 + 128) := ⟨_, rfl⟩
      have H1 : Hid ((acc ++ [c]) ++ numB (m / 128) = l ++ numB n) := by
        have e := HA.out
        rw [numB_big m (by omega), ← hcd] at e
        show (acc ++ [c]) ++ numB (m / 128) = l ++ numB n
        rw [← e, List.append_assoc]; rfl
      have HC : Hid (c = UInt8.ofNat (m % 128 + 128)) := hcd
      clear hcd
      go_wp2_with (at_builtin; refine wpList_own_append _ rfl _ _ 41 41 rfl B 5 i0 (.int .u8 0) 1 Tryz.underlying41 hi hz0 hz1 hz2 rfl _ _ _ rfl (hW.row.alloc _) _ 1 [cellU8 c] rfl ?c0 ?c3 ?c4 ?c5 ?_)
      case c0 => exact src_one wr _ c (by rw [HC.out]; exact or128 m)
      case c3 => unfold maxLen; omega
      case c4 => omega
      case c5 => simp; omega
      intro v' w1 ha
      have hb2 := hW.box2 (World.grownBy_alloc wr _ none) ha
      have hc2 := cell_of_one hb2
      have hf2 := free_of_one hb2
      have hl2 := lt_of_block hb2
      have hst := hW.step1 hBr (World.grownBy_alloc wr _ none) ha
      obtain ⟨a', c', hv'⟩ := ha.shape
      rw [hv'] at hst ⊢
      clear ha hb2 hcell hfree
      go_wp2
      go_roundw
      case rel => exact ⟨m / 128, _, _, rfl, by omega, H1.out, hst.1, hK.trans hst.2.1, hst.2.2⟩
      case measure => simp [intOf]; omega
    · obtain ⟨c, hcd⟩ : ∃ c, c = UInt8.ofNat m := ⟨_, rfl⟩
      have H1 : Hid (acc ++ [c] = l ++ numB n) := by
        have e := HA.out
        rw [numB_small m (by omega), ← hcd] at e
        exact e
      have HC : Hid (c = UInt8.ofNat m) := hcd
      clear hcd
      go_wp2_with (at_builtin; refine wpList_own_append _ rfl _ _ 41 41 rfl B 5 i0 (.int .u8 0) 1 Tryz.underlying41 hi hz0 hz1 hz2 rfl _ _ _ rfl (hW.row.alloc _) _ 1 [cellU8 c] rfl ?d0 ?d3 ?d4 ?d5 ?_)
      case d0 => exact src_one wr _ c (by rw [HC.out, ofNat_toNat m (by omega)])
      case d3 => unfold maxLen; omega
      case d4 => omega
      case d5 => simp; omega
      intro v' w1 ha
      have hb2 := hW.box2 (World.grownBy_alloc wr _ none) ha
      have hc2 := cell_of_one hb2
      have hf2 := free_of_one hb2
      have hl2 := lt_of_block hb2
      have hst := hW.step1 hBr (World.grownBy_alloc wr _ none) ha
      obtain ⟨a', c', hv'⟩ := ha.shape
      rw [hv'] at hst ⊢
      rw [H1.out] at hst
      clear ha hb2 hcell hfree
      go_wp2
      go_end0
      exact ⟨rfl, _, hst.1, hK.trans hst.2.1⟩

theorem wnumber_int (B p : Nat) (v : Value) (l : List UInt8) (x : Int) (n : Nat) (w : World) (h : Wr B w p v l) (hB : B ≤ w.heap.size) (hx : x = n) (hn : n < 18446744073709551616) (hl : l.length ≤ 1000000) :
    Calls Tryz.prog 30 #[.pointer (some ⟨p, 0, none⟩), .int .u64 x] w
      fun e w' => e = .returned (.tuple #[]) ∧ ∃ v', Wr B w' p v' (l ++ numB n) ∧ Kept w w' p v v' := by
  subst hx
  exact wnumber_any B p v l n w h hB hn hl

theorem Wr.stepS {B : Nat} {w w2 : World} {p : Nat} {v v' : Value} {l : List UInt8} (s : ByteArray) (h : Wr B w p v l) (hB : B ≤ w.heap.size)
    (ha : Appended B 5 w w2 v v' (l.length + s.size) (l.map cellU8 ++ byteCells s)) :
    Wr B (w2.setCell ⟨p, 0, none⟩ v') p v' (l ++ s.data.toList) ∧ Kept w (w2.setCell ⟨p, 0, none⟩ v') p v v' ∧ B ≤ (w2.setCell ⟨p, 0, none⟩ v').heap.size :=
  h.step (news := s.data.toList) hB ⟨rfl, rfl, rfl, Nat.le_refl _, fun _ _ _ => rfl⟩ (by simp) ha

set_option maxRecDepth 100000 in
theorem wtext_any (B p : Nat) (v : Value) (l : List UInt8) (s : ByteArray) (w : World) (h : Wr B w p v l) (hB : B ≤ w.heap.size) (hs : s.size ≤ 1000000) (hl : l.length ≤ 900000) :
    Calls Tryz.prog 12 #[.pointer (some ⟨p, 0, none⟩), .string s] w
      fun e w' => e = .returned (.tuple #[]) ∧ ∃ v', Wr B w' p v' (l ++ (numB s.size ++ s.data.toList)) ∧ Kept w w' p v v' := by
  obtain ⟨i0, hi, hz0, hz1, hz2⟩ := info_parts Tryz.info5
  have h10 := numB_len10 s.size (by omega)
  go_enter Tryz.func12, Tryz.ntmps12
  go_wp2_with fail
  refine (wnumber_int B p v l _ s.size _ h hB rfl (by omega) (by omega)).mono ?_
  rintro e w1 ⟨rfl, u, hW, hK⟩
  have hBr : B ≤ w1.heap.size := Nat.le_trans hB hK.size
  have hcell := cell_of_one hW.box
  have hfree := free_of_one hW.box
  have hplt := hW.lt
  obtain ⟨acc, hacc⟩ : ∃ acc, acc = l ++ numB s.size := ⟨_, rfl⟩
  have hal : acc.length < 900011 := by rw [hacc, List.length_append]; omega
  rw [← hacc] at hW
  have HA : Hid (acc = l ++ numB s.size) := hacc
  clear hacc
  obtain ⟨ua, uc, hu⟩ := hW.shape
  subst hu
  go_wp2_with (at_builtin; refine wpList_own_append _ rfl _ _ 41 9 rfl B 5 i0 (.int .u8 0) 1 Tryz.underlying41 hi hz0 hz1 hz2 rfl _ _ _ rfl hW.row _ s.size (byteCells s) rfl ?c0 ?c3 ?c4 ?c5 ?_)
  case c0 => exact Src.ofString _ Tryz.underlying9 s
  case c3 => unfold maxLen; omega
  case c4 => omega
  case c5 => exact hBr
  intro v' w2 ha
  have hb2 := hW.box2 ⟨rfl, rfl, rfl, Nat.le_refl _, fun _ _ _ => rfl⟩ ha
  have hc2 := cell_of_one hb2
  have hf2 := free_of_one hb2
  have hl2 := lt_of_block hb2
  have hst := hW.stepS s hBr ha
  obtain ⟨a', c', hv'⟩ := ha.shape
  rw [hv'] at hst ⊢
  clear ha hb2 hcell hfree
  go_wp2
  go_end0
  refine ⟨rfl, _, ?_, hK.trans hst.2.1⟩
  have e : l ++ (numB s.size ++ s.data.toList) = acc ++ s.data.toList := by rw [HA.out, List.append_assoc]
  rw [e]
  exact hst.1

theorem bytes_any (B p : Nat) (v : Value) (l : List UInt8) (w : World) (h : Wr B w p v l) :
    Calls Tryz.prog 18 #[.pointer (some ⟨p, 0, none⟩)] w
      fun e w' => e = .returned (.string ⟨l.toArray⟩) ∧ w' = w := by
  have hcell := cell_of_one h.box
  rcases h.row.2 with ⟨rfl, hn⟩ | ⟨g, cap, cur, rfl, hbg, hg, hnc, hcm, hcs, htake⟩
  · have hl : l = [] := List.eq_nil_of_length_eq_zero hn
    subst hl
    have hcv := run_convert_bytes_nil (P := Tryz.prog) w 41 5 Tryz.underlying41 Tryz.underlying5 0 0
    go_enter Tryz.func18, Tryz.ntmps18
    go_wp2
    go_ret
    exact ⟨rfl, rfl⟩
  · have hcv := run_convert_bytes_back (P := Tryz.prog) w 41 9 5 ⟨g, 0, none⟩ cap l Tryz.underlying41 Tryz.underlying5 Tryz.underlying9 (fun j hj => by
      have := h.row.cells (g := g) rfl j (cellU8 l[j]) (by simp [hj])
      exact this)
    go_enter Tryz.func18, Tryz.ntmps18
    go_wp2
    go_ret
    exact ⟨rfl, rfl⟩

end Go.Proofs.YtcckoncgfmbhiaaGreatDoor

/- The document's texts in bytes (wigwagref02.Number, Text) are the same plain lists. -/
namespace Go.Proofs.YtcckoncgfmbhiaaGreatDoor
open Go.ChangeShapes Go.WideShapes Go.ChangeAt Go.RowKit
set_option linter.unusedVariables false

theorem conv_one (W : World) (b : Nat) (x : Int) (c : UInt8) (hx : x = (c.toNat : Int)) (h : W.cell? ⟨b, 0, none⟩ = some (.int .u8 x)) :
    (convert 41 9 (.slice (some ⟨b, 0, none⟩) 1 1)).run Tryz.prog W = .ok (.string ⟨#[c]⟩) W := by
  subst hx
  exact run_convert_bytes_back (P := Tryz.prog) W 41 9 5 ⟨b, 0, none⟩ 1 [c] Tryz.underlying41 Tryz.underlying5 Tryz.underlying9 (fun j hj => by
    have hj0 : j = 0 := by simpa using hj
    subst hj0
    simpa [Addr.add] using h)

theorem bcell {W w1 : World} (hb : Below W.heap.size W w1) : (∀ b o, b < W.heap.size → w1.cell? ⟨b, o, none⟩ = W.cell? ⟨b, o, none⟩) ∧ (∀ b o, b < W.heap.size → w1.frozen? ⟨b, o, none⟩ = W.frozen? ⟨b, o, none⟩) :=
  ⟨fun b o h => hb.cell (p := ⟨b, o, none⟩) h, fun b o h => hb.frozen (p := ⟨b, o, none⟩) h⟩

theorem below_a {w w1 : World} {o : Obj} (h : Below (w.alloc o).drew.heap.size (w.alloc o).drew w1) : Below w.heap.size w w1 :=
  ((Below.refl _ _).alloc (Nat.le_refl _) o).drew.trans (h.mono (by show w.heap.size ≤ (w.alloc o).heap.size; simp))
theorem below_b {w w1 : World} (h : Below w.drew.heap.size w.drew w1) (o : Obj) : Below w.heap.size w (w1.alloc o) :=
  ((Below.refl _ _).drew.trans h).alloc (show w.heap.size ≤ w1.heap.size from h.size) o
theorem str_append (a b : List UInt8) : (ByteArray.mk a.toArray) ++ (ByteArray.mk b.toArray) = ⟨(a ++ b).toArray⟩ := by
  apply bytes_inj; simp

theorem ref_small (n : Nat) (w : World) (hn : n < 128) :
    Calls Tryz.prog 64 #[.int .u64 n] w fun e w' => e = .returned (.string ⟨(numB n).toArray⟩) ∧ Below w.heap.size w w' := by
  have HB : Hid (numB n = [UInt8.ofNat n]) := numB_small n hn
  obtain ⟨c, hc⟩ : ∃ c, c = UInt8.ofNat n := ⟨_, rfl⟩
  have hcv := conv_one (w.alloc (.cells #[.int .u8 (n : Int)] 5)) w.heap.size n c (by rw [hc, ofNat_toNat n (by omega)]) (by simp)
  have HC : Hid (c = UInt8.ofNat n) := hc
  clear hc
  have hni : (n : Int) < 128 := by omega
  go_enter Tryz.func64, Tryz.ntmps64
  go_wp2
  go_ret
  exact ⟨ret_s (by rw [HB.out, HC.out]), (Below.refl _ _).alloc (Nat.le_refl _) _⟩

theorem ref_number (n : Nat) (w : World) (hn : n < 18446744073709551616) :
    Calls Tryz.prog 64 #[.int .u64 n] w fun e w' => e = .returned (.string ⟨(numB n).toArray⟩) ∧ Below w.heap.size w w' := by
  induction n using Nat.strongRecOn generalizing w with
  | _ n ih =>
    by_cases hs : n < 128
    · exact ref_small n w hs
    · have ih' : Hid (∀ w, Calls Tryz.prog 64 #[.int .u64 (IntKind.u64.wrap ((n : Int) / 128))] w fun e w' => e = .returned (.string ⟨(numB (n / 128)).toArray⟩) ∧ Below w.heap.size w w') := fun w => by
        have e : IntKind.u64.wrap ((n : Int) / 128) = ((n / 128 : Nat) : Int) := by rw [IntWalk.u64_in _ ⟨by omega, by omega⟩]; omega
        rw [e]; exact ih (n / 128) (by omega) w (by omega)
      clear ih
      obtain ⟨c, hc⟩ : ∃ c, c = UInt8.ofNat (n % 128 + 128) := ⟨_, rfl⟩
      have HB : Hid (numB n = c :: numB (n / 128)) := (by rw [hc]; exact numB_big n hs : numB n = c :: numB (n / 128))
      have hcv : ∀ (W : World) (b : Nat), W.cell? ⟨b, 0, none⟩ = some (.int .u8 (IntKind.u8.wrap (IntKind.u64.wrap (128 + (n : Int).tmod 128)))) → (convert 41 9 (.slice (some ⟨b, 0, none⟩) 1 1)).run Tryz.prog W = .ok (.string ⟨#[c]⟩) W :=
        fun W b h => conv_one W b _ c (by rw [hc, ofNat_toNat _ (by omega), IntKind.wrap_u64, IntKind.wrap_u8, Int.tmod_eq_emod_of_nonneg (by omega)]; omega) h
      clear hc
      have h10 := numB_len10 (n / 128) (by omega)
      have hni : ¬ (n : Int) < 128 := by omega
      have hn1 : (n : Int) ≤ 18446744073709551615 := by omega
      go_enter Tryz.func64, Tryz.ntmps64
      go_wp2_with fail
      go_region_with (first | (go_at_call 64; refine (ih'.out _).mono ?_; rintro e w1 ⟨rfl, hb1⟩; obtain ⟨hc1, hf1⟩ := bcell hb1))
      all_goals (try go_wp2)
      all_goals go_ret
      all_goals exact ⟨ret_s (by rw [HB.out]; exact str_append [c] (numB (n / 128))), by first | exact below_a hb1 | exact below_b hb1 _⟩

theorem ref_number_int (x : Int) (n : Nat) (w : World) (hx : x = n) (hn : n < 18446744073709551616) :
    Calls Tryz.prog 64 #[.int .u64 x] w fun e w' => e = .returned (.string ⟨(numB n).toArray⟩) ∧ Below w.heap.size w w' := by
  subst hx; exact ref_number n w hn

theorem ref_text (s : ByteArray) (w : World) (hs : s.size ≤ 1000000) :
    Calls Tryz.prog 39 #[.string s] w fun e w' => e = .returned (.string ⟨(numB s.size ++ s.data.toList).toArray⟩) ∧ Below w.heap.size w w' := by
  have h10 := numB_len10 s.size (by omega)
  go_enter Tryz.func39, Tryz.ntmps39
  go_wp2_with fail
  refine (ref_number_int _ s.size _ rfl (by omega)).mono ?_
  rintro e w' ⟨rfl, hb⟩
  go_wp2
  all_goals go_ret
  all_goals exact ⟨ret_s (str_append (numB s.size) s.data.toList), hb⟩
end Go.Proofs.YtcckoncgfmbhiaaGreatDoor

/- api.Of of a fault of package filter is its code: errors.As is walked, round by round. -/
namespace Go.Proofs.YtcckoncgfmbhiaaGreatDoor
open Go.ChangeShapes Go.WideShapes Go.ChangeAt Go.RowKit Go.Extern.Stop Go.Stop Go.Extern
set_option linter.unusedVariables false

theorem valueOfP (t : Addr) (w : World) : Sem.run Tryz.prog (callFunc 51 #[.iface 78 (.pointer (some t))]) w
    = .ok (.value (.agg #[.pointer (some ⟨7, 78, none⟩), .pointer (some ⟨w.heap.size, 0, none⟩), .int .u64 150])) (w.alloc (.cells #[.pointer (some t)] 78)) := by
  rw [@run_callFunc_extern Tryz.prog 51 _ (fun args => ReflectliteValue.unpack (args.getD 0 (.tuple #[]))) Tryz.func51 (by kernel_rfl) (by kernel_rfl) (by kernel_rfl) (by kernel_rfl)]
  kernel_rfl
theorem valueOfC (c : Int) (w : World) : Sem.run Tryz.prog (callFunc 51 #[.iface 39 (.int .i64 c)]) w
    = .ok (.value (.agg #[.pointer (some ⟨7, 39, none⟩), .pointer (some ⟨w.heap.size, 0, none⟩), .int .u64 130])) (w.alloc (.cells #[.int .i64 c] 39)) := by
  rw [@run_callFunc_extern Tryz.prog 51 _ (fun args => ReflectliteValue.unpack (args.getD 0 (.tuple #[]))) Tryz.func51 (by kernel_rfl) (by kernel_rfl) (by kernel_rfl) (by kernel_rfl)]
  kernel_rfl
theorem typeOfV (a : Addr) (w : World) : Sem.run Tryz.prog (callFunc 52 #[.agg #[.pointer (some ⟨7, 78, none⟩), .pointer (some a), .int .u64 150]]) w
    = .ok (.value (.iface 131 (.agg #[.pointer (some ⟨7, 78, none⟩)]))) w := by
  rw [@run_callFunc_extern Tryz.prog 52 _ (ReflectliteValue.methodAny (ReflectliteValue.valueError "reflectlite.Value.Type" 0) (fun t _ _ _ => ReflectliteType.toType t)) Tryz.func52 (by kernel_rfl) (by kernel_rfl) (by kernel_rfl) (by kernel_rfl)]
  kernel_rfl
theorem m_kind (h : Value) (w : World) : (Go.method 313 131 (.agg #[h]) "Kind").run Tryz.prog w = .ok (126, h) w := by kernel_rfl
theorem kindP (w : World) : Sem.run Tryz.prog (callFunc 126 #[.pointer (some ⟨7, 78, none⟩)]) w = .ok (.value (.int .u8 22)) w := by
  rw [@run_callFunc_extern Tryz.prog 126 _ (ReflectliteType.abiMethod fun t => do pure (.int .u8 (← Rtype.kind t))) Tryz.func126 (by kernel_rfl) (by kernel_rfl) (by kernel_rfl) (by kernel_rfl)]
  kernel_rfl
theorem kindC (w : World) : Sem.run Tryz.prog (callFunc 126 #[.pointer (some ⟨7, 39, none⟩)]) w = .ok (.value (.int .u8 2)) w := by
  rw [@run_callFunc_extern Tryz.prog 126 _ (ReflectliteType.abiMethod fun t => do pure (.int .u8 (← Rtype.kind t))) Tryz.func126 (by kernel_rfl) (by kernel_rfl) (by kernel_rfl) (by kernel_rfl)]
  kernel_rfl
theorem m_elem (h : Value) (w : World) : (Go.method 313 131 (.agg #[h]) "Elem").run Tryz.prog w = .ok (139, .agg #[h]) w := by kernel_rfl
theorem m_impl (h : Value) (w : World) : (Go.method 313 131 (.agg #[h]) "Implements").run Tryz.prog w = .ok (140, .agg #[h]) w := by kernel_rfl
theorem m_assign (h : Value) (w : World) : (Go.method 313 131 (.agg #[h]) "AssignableTo").run Tryz.prog w = .ok (137, .agg #[h]) w := by kernel_rfl
theorem elemT (w : World) : Sem.run Tryz.prog (callFunc 139 #[.agg #[.pointer (some ⟨7, 78, none⟩)]]) w = .ok (.value (.iface 131 (.agg #[.pointer (some ⟨7, 39, none⟩)]))) w := by
  rw [@run_callFunc_extern Tryz.prog 139 _ (ReflectliteType.method ReflectliteType.elem) Tryz.func139 (by kernel_rfl) (by kernel_rfl) (by kernel_rfl) (by kernel_rfl)]
  kernel_rfl
theorem implT (w : World) : Sem.run Tryz.prog (callFunc 140 #[.agg #[.pointer (some ⟨7, 39, none⟩)], .iface 131 (.agg #[.pointer (some ⟨7, 31, none⟩)])]) w = .ok (.value (.bool true)) w := by
  rw [@run_callFunc_extern Tryz.prog 140 _ (ReflectliteType.relation "Implements" ReflectliteType.implements_) Tryz.func140 (by kernel_rfl) (by kernel_rfl) (by kernel_rfl) (by kernel_rfl)]
  kernel_rfl
theorem typeOfF (v : Value) (w : World) : Sem.run Tryz.prog (callFunc 49 #[.iface 60 v]) w = .ok (.value (.iface 131 (.agg #[.pointer (some ⟨7, 60, none⟩)]))) w := by
  rw [@run_callFunc_extern Tryz.prog 49 _ Extern.ReflectliteType.typeOf Tryz.func49 (by kernel_rfl) (by kernel_rfl) (by kernel_rfl) (by kernel_rfl)]
  kernel_rfl
theorem assignF (w : World) : Sem.run Tryz.prog (callFunc 137 #[.agg #[.pointer (some ⟨7, 60, none⟩)], .iface 131 (.agg #[.pointer (some ⟨7, 39, none⟩)])]) w = .ok (.value (.bool false)) w := by
  rw [@run_callFunc_extern Tryz.prog 137 _ (ReflectliteType.relation "AssignableTo" ReflectliteType.assignableTo) Tryz.func137 (by kernel_rfl) (by kernel_rfl) (by kernel_rfl) (by kernel_rfl)]
  kernel_rfl
theorem assignC (w : World) : Sem.run Tryz.prog (callFunc 137 #[.agg #[.pointer (some ⟨7, 39, none⟩)], .iface 131 (.agg #[.pointer (some ⟨7, 39, none⟩)])]) w = .ok (.value (.bool true)) w := by
  rw [@run_callFunc_extern Tryz.prog 137 _ (ReflectliteType.relation "AssignableTo" ReflectliteType.assignableTo) Tryz.func137 (by kernel_rfl) (by kernel_rfl) (by kernel_rfl) (by kernel_rfl)]
  kernel_rfl
theorem no_as_f (v : Value) (xT : TypeId) (w : World) : (Instr.typeAssert (.iface 60 v) xT 142 true).run Tryz.prog w = .ok (.tuple #[.nilIface, .bool false]) w := run_typeAssert_lacksB Tryz.underlying142 (by kernel_rfl) (by kernel_rfl) v xT w

theorem rlm (z : Sem Value) (f : TypeId → Addr → Nat → Nat → Sem Value) (v : Value) :
    ReflectliteValue.method z f #[v] = (do match ← ReflectliteValue.parts v with | none => z | some (t, a, fl) => f t a fl (fl % 32)) := rfl
theorem partsP (a : Addr) (w : World) : (ReflectliteValue.parts (.agg #[.pointer (some ⟨7, 78, none⟩), .pointer (some a), .int .u64 150])).run Tryz.prog w = .ok (some (78, a, 150)) w := by kernel_rfl
theorem isNilP (a p : Addr) (W : World) (ha : W.cell? a = some (.pointer (some p))) :
    Sem.run Tryz.prog (callFunc 53 #[.agg #[.pointer (some ⟨7, 78, none⟩), .pointer (some a), .int .u64 150]]) W = .ok (.value (.bool false)) W := by
  rw [@run_callFunc_extern Tryz.prog 53 _ (ReflectliteValue.method (ReflectliteValue.valueError "reflectlite.Value.IsNil" 0) ReflectliteValue.isNil) Tryz.func53 (by kernel_rfl) (by kernel_rfl) (by kernel_rfl) (by kernel_rfl)]
  rw [rlm]
  simp only [Sem.run_bind, partsP, Result.andThen]
  simp [ReflectliteValue.isNil, loadVar, isAgg, underlying, Tryz.underlying78, ha, Result.andThen]
theorem elemOfP (w : World) : (Rtype.elem? 78).run Tryz.prog w = .ok (some 39) w := by kernel_rfl
theorem mkC (p : Addr) (w : World) : (ReflectliteValue.mk 39 p ReflectliteValue.flagAddr).run Tryz.prog w = .ok (.agg #[.pointer (some ⟨7, 39, none⟩), .pointer (some p), .int .u64 386]) w := by kernel_rfl
theorem elemV (a p : Addr) (W : World) (ha : W.cell? a = some (.pointer (some p))) :
    Sem.run Tryz.prog (callFunc 68 #[.agg #[.pointer (some ⟨7, 78, none⟩), .pointer (some a), .int .u64 150]]) W
      = .ok (.value (.agg #[.pointer (some ⟨7, 39, none⟩), .pointer (some p), .int .u64 386])) W := by
  rw [@run_callFunc_extern Tryz.prog 68 _ (ReflectliteValue.method (ReflectliteValue.valueError "reflectlite.Value.Elem" 0) ReflectliteValue.elem) Tryz.func68 (by kernel_rfl) (by kernel_rfl) (by kernel_rfl) (by kernel_rfl)]
  rw [rlm]
  simp only [Sem.run_bind, partsP, Result.andThen]
  simp [ReflectliteValue.elem, loadVar, isAgg, underlying, Tryz.underlying78, ha, Result.andThen, elemOfP, mkC]
theorem rls (v x : Value) : ReflectliteValue.set #[v, x] = (do
    let (some (dst, a, fl), some (src, b, _)) := (← ReflectliteValue.parts v, ← ReflectliteValue.parts x)
      | unsupported (.noEntry "extern/(internal/reflectlite.Value).Set.zeroValue")
    if fl / ReflectliteValue.flagAddr % 2 == 0 then unsupported (.noEntry "extern/(internal/reflectlite.Value).Set.unaddressable")
    let val ← loadVar src b
    if ← Rtype.directlyAssignable dst src then storeVar dst a val
    else if ← Rtype.implements dst src then
      if (← Rtype.kind src) == 20 then
        match val with
        | .nilIface => unsupported (.noEntry "extern/reflectlite: a nil value of one interface type handed on as a value of another")
        | _ => storeVar dst a val
      else storeVar dst a (.iface src val)
    else panicString ("reflectlite.Set: value of type " ++ (← Rtype.spelt src) ++ " is not assignable to type " ++ (← Rtype.spelt dst))
    pure (.tuple #[])) := rfl
theorem partsCa (a : Addr) (w : World) : (ReflectliteValue.parts (.agg #[.pointer (some ⟨7, 39, none⟩), .pointer (some a), .int .u64 386])).run Tryz.prog w = .ok (some (39, a, 386)) w := by kernel_rfl
theorem partsC (a : Addr) (w : World) : (ReflectliteValue.parts (.agg #[.pointer (some ⟨7, 39, none⟩), .pointer (some a), .int .u64 130])).run Tryz.prog w = .ok (some (39, a, 130)) w := by kernel_rfl
theorem directC (w : World) : (Rtype.directlyAssignable 39 39).run Tryz.prog w = .ok true w := by kernel_rfl
theorem setC (ta b : Addr) (c : Int) (old : Value) (W : World) (hb : W.cell? b = some (.int .i64 c)) (ht : W.cell? ta = some old) (hf : W.frozen? ta = false) :
    Sem.run Tryz.prog (callFunc 69 #[.agg #[.pointer (some ⟨7, 39, none⟩), .pointer (some ta), .int .u64 386], .agg #[.pointer (some ⟨7, 39, none⟩), .pointer (some b), .int .u64 130]]) W
      = .ok (.value (.tuple #[])) (W.setCell ta (.int .i64 c)) := by
  rw [@run_callFunc_extern Tryz.prog 69 _ ReflectliteValue.set Tryz.func69 (by kernel_rfl) (by kernel_rfl) (by kernel_rfl) (by kernel_rfl)]
  rw [rls]
  simp only [Sem.run_bind, partsCa, partsC, Result.andThen]
  simp [ReflectliteValue.flagAddr, loadVar, isAgg, underlying, Tryz.underlying39, hb, Result.andThen, directC, storeVar, Value.cells, storeCells, Addr.add]
  rw [run_store Tryz.prog W ta _ _ (by rfl)]
  simp [ht, hf]

set_option maxHeartbeats 4000000 in
theorem as_fault (g tb : Nat) (c : Int) (old : Value) (w : World) (hg : ErrType w) (ht0 : w.cell? ⟨tb, 0, none⟩ = some old) (hf0 : w.frozen? ⟨tb, 0, none⟩ = false) (hc : w.cell? ⟨g, 2, none⟩ = some (.iface 39 (.int .i64 c))) :
    Calls Tryz.prog 29 #[.iface 60 (.pointer (some ⟨g, 0, none⟩)), .iface 78 (.pointer (some ⟨tb, 0, none⟩))] w fun ev w' => ev = .returned (.bool true) ∧
      w' = ((((w.alloc (.cells #[.pointer (some ⟨tb, 0, none⟩)] 78)).alloc (.cells #[.pointer (some ⟨7, 78, none⟩), .pointer (some ⟨w.heap.size, 0, none⟩), .int .u64 150] 109)).alloc (.cells #[.pointer (some ⟨7, 78, none⟩), .pointer (some ⟨w.heap.size, 0, none⟩), .int .u64 150] 109)).alloc (.cells #[.int .i64 c] 39)).setCell ⟨tb, 0, none⟩ (.int .i64 c) := by
  have hlt := hg.lt
  have hg0 : w.cell? ⟨0, 0, none⟩ = some (.iface 131 (.agg #[.pointer (some ⟨7, 31, none⟩)])) := hg
  clear hg
  have h1 := valueOfP
  have h2 := valueOfC
  have h3 := typeOfV
  have h4 := m_kind
  have h5 := kindP
  have h6 := kindC
  have h7 := m_elem
  have h8 := m_impl
  have h9 := m_assign
  have h10 := elemT
  have h11 := implT
  have h12 := typeOfF
  have h13 := assignF
  have h14 := assignC
  have h15 := no_as_f
  have h16 := has_unwrapl
  have h17 := unwrap_methodl
  have h18 := type_callL
  have htl : tb < w.heap.size := by
    rcases Nat.lt_or_ge tb w.heap.size with h | h
    · exact h
    · simp [World.cell?, Array.getElem?_eq_none h] at ht0
  have hgl : g < w.heap.size := by
    rcases Nat.lt_or_ge g w.heap.size with h | h
    · exact h
    · simp [World.cell?, Array.getElem?_eq_none h] at hc
  obtain ⟨A, hA⟩ : ∃ A, A = Obj.cells #[.pointer (some ⟨tb, 0, none⟩)] 78 := ⟨_, rfl⟩
  obtain ⟨V, hV⟩ : ∃ V, V = Obj.cells #[.pointer (some ⟨7, 78, none⟩), .pointer (some ⟨w.heap.size, 0, none⟩), .int .u64 150] 109 := ⟨_, rfl⟩
  obtain ⟨D, hD⟩ : ∃ D, D = Obj.cells #[.int .i64 c] 39 := ⟨_, rfl⟩
  have n8 := isNilP ⟨w.heap.size, 0, none⟩ ⟨tb, 0, none⟩ ((w.alloc A).alloc V) (by rw [World.cell?_alloc_lt _ _ ⟨w.heap.size, 0, none⟩ (by simp), hA]; simp)
  have hg2 : ((w.alloc A).alloc V).cell? ⟨0, 0, none⟩ = some (.iface 131 (.agg #[.pointer (some ⟨7, 31, none⟩)])) := by
    rw [World.cell?_alloc_lt _ _ ⟨0, 0, none⟩ (by simp), World.cell?_alloc_lt _ _ ⟨0, 0, none⟩ hlt]; exact hg0
  have hc3 : (((w.alloc A).alloc V).alloc V).cell? ⟨g, 2, none⟩ = some (.iface 39 (.int .i64 c)) := by
    rw [World.cell?_alloc_lt _ _ ⟨g, 2, none⟩ (by simp; omega), World.cell?_alloc_lt _ _ ⟨g, 2, none⟩ (by simp; omega), World.cell?_alloc_lt _ _ ⟨g, 2, none⟩ hgl]; exact hc
  have el := elemV ⟨w.heap.size, 0, none⟩ ⟨tb, 0, none⟩ (((w.alloc A).alloc V).alloc V) (by rw [World.cell?_alloc_lt _ _ ⟨w.heap.size, 0, none⟩ (by simp; omega), World.cell?_alloc_lt _ _ ⟨w.heap.size, 0, none⟩ (by simp), hA]; simp)
  have st := setC ⟨tb, 0, none⟩ ⟨w.heap.size + 1 + 1 + 1, 0, none⟩ c old ((((w.alloc A).alloc V).alloc V).alloc D)
    (by rw [hD, World.cell?_alloc_at _ _ _ _ (by simp)]; rfl)
    (by rw [World.cell?_alloc_lt _ _ ⟨tb, 0, none⟩ (by simp; omega), World.cell?_alloc_lt _ _ ⟨tb, 0, none⟩ (by simp; omega), World.cell?_alloc_lt _ _ ⟨tb, 0, none⟩ (by simp; omega), World.cell?_alloc_lt _ _ ⟨tb, 0, none⟩ htl]; exact ht0)
    (by rw [World.frozen?_alloc_old _ _ ⟨tb, 0, none⟩ (by simp; omega), World.frozen?_alloc_old _ _ ⟨tb, 0, none⟩ (by simp; omega), World.frozen?_alloc_old _ _ ⟨tb, 0, none⟩ (by simp; omega), World.frozen?_alloc_old _ _ ⟨tb, 0, none⟩ (Nat.ne_of_lt htl)]; exact hf0)
  subst hA hV hD
  clear hgl hg0 hc
  go_enter Tryz.func29, Tryz.ntmps29
  go_wp2
  refine wp_loop_rounds 2 ?_
  rw [rounds_succ]
  go_wp2
  rw [rounds_succ]
  go_wp2
  go_ret
  exact ⟨rfl, rfl⟩

theorem of_nil (w : World) : Calls Tryz.prog 11 #[.nilIface] w fun e w' => e = .returned (.int .i64 0) ∧ w' = w := by
  go_enter Tryz.func11, Tryz.ntmps11
  go_wp2
  go_ret
  exact ⟨rfl, rfl⟩

theorem of_fault (g' : Nat) (at7 c : Int) (w : World) (hg : ErrType w) (hF' : FaultAt w g' at7 c) :
    Calls Tryz.prog 11 #[.iface 60 (.pointer (some ⟨g', 0, none⟩))] w fun e w' => e = .returned (.int .i64 c) ∧ Below w.heap.size w w' := by
  have hlt := hg.lt
  unfold FaultAt at hF'
  have hgl := lt_of_block hF'
  have hg1 : ErrType (w.alloc (.cells #[.int .i64 0] 39)) := hg.below hlt ((Below.refl _ _).alloc (Nat.le_of_lt (Nat.lt_of_lt_of_le Nat.zero_lt_one hlt)) _ |>.mono (Nat.le_refl _) |> fun h => ⟨h.os, h.tape, h.output, h.size, fun k hk => Below.heap_alloc w _ k hk⟩)
  have hc1 : (w.alloc (.cells #[.int .i64 0] 39)).cell? ⟨g', 2, none⟩ = some (.iface 39 (.int .i64 c)) := by
    rw [World.cell?_alloc_lt _ _ ⟨g', 2, none⟩ hgl]; simp [World.cell?, hF']
  clear hF'
  go_enter Tryz.func11, Tryz.ntmps11
  go_wp2_with fail
  refine (as_fault g' w.heap.size c (.int .i64 0) _ hg1 (by simp) (by simp) hc1).mono ?_
  rintro e w' ⟨rfl, hw'⟩
  have hb : Below w.heap.size w w' := by
    rw [hw']
    refine Below.setCell (((((Below.refl _ _).alloc (Nat.le_refl _) _).alloc (by simp) _).alloc (by simp; omega) _).alloc (by simp; omega) _ |>.alloc (by simp; omega) _) (Nat.le_refl _) _
  have hcell : w'.cell? ⟨w.heap.size, 0, none⟩ = some (.int .i64 c) := by
    rw [hw']
    refine World.cell?_setCell_same' _ _ _ ?_
    rw [World.cell?_alloc_lt _ _ ⟨w.heap.size, 0, none⟩ (by simp; omega), World.cell?_alloc_lt _ _ ⟨w.heap.size, 0, none⟩ (by simp; omega), World.cell?_alloc_lt _ _ ⟨w.heap.size, 0, none⟩ (by simp; omega), World.cell?_alloc_lt _ _ ⟨w.heap.size, 0, none⟩ (by simp)]
    simp
  clear hw'
  go_wp2
  go_ret
  exact ⟨rfl, hb⟩

end Go.Proofs.YtcckoncgfmbhiaaGreatDoor

/- api.Of of a fault within a fault. -/
namespace Go.Proofs.YtcckoncgfmbhiaaGreatDoor
open Go.ChangeShapes Go.WideShapes Go.ChangeAt Go.RowKit Go.Extern.Stop Go.Stop Go.Extern
set_option linter.unusedVariables false

set_option maxHeartbeats 4000000 in
theorem as_fault2 (g0 g tb : Nat) (c : Int) (old : Value) (w : World) (hg : ErrType w) (ht0 : w.cell? ⟨tb, 0, none⟩ = some old) (hf0 : w.frozen? ⟨tb, 0, none⟩ = false) (hc0 : w.cell? ⟨g0, 2, none⟩ = some (.iface 60 (.pointer (some ⟨g, 0, none⟩)))) (hc : w.cell? ⟨g, 2, none⟩ = some (.iface 39 (.int .i64 c))) :
    Calls Tryz.prog 29 #[.iface 60 (.pointer (some ⟨g0, 0, none⟩)), .iface 78 (.pointer (some ⟨tb, 0, none⟩))] w fun ev w' => ev = .returned (.bool true) ∧
      w' = ((((w.alloc (.cells #[.pointer (some ⟨tb, 0, none⟩)] 78)).alloc (.cells #[.pointer (some ⟨7, 78, none⟩), .pointer (some ⟨w.heap.size, 0, none⟩), .int .u64 150] 109)).alloc (.cells #[.pointer (some ⟨7, 78, none⟩), .pointer (some ⟨w.heap.size, 0, none⟩), .int .u64 150] 109)).alloc (.cells #[.int .i64 c] 39)).setCell ⟨tb, 0, none⟩ (.int .i64 c) := by
  have hlt := hg.lt
  have hq0 : w.cell? ⟨0, 0, none⟩ = some (.iface 131 (.agg #[.pointer (some ⟨7, 31, none⟩)])) := hg
  clear hg
  have h1 := valueOfP
  have h2 := valueOfC
  have h3 := typeOfV
  have h4 := m_kind
  have h5 := kindP
  have h6 := kindC
  have h7 := m_elem
  have h8 := m_impl
  have h9 := m_assign
  have h10 := elemT
  have h11 := implT
  have h12 := typeOfF
  have h13 := assignF
  have h14 := assignC
  have h15 := no_as_f
  have h16 := has_unwrapl
  have h17 := unwrap_methodl
  have h18 := type_callL
  have htl : tb < w.heap.size := by
    rcases Nat.lt_or_ge tb w.heap.size with h | h
    · exact h
    · simp [World.cell?, Array.getElem?_eq_none h] at ht0
  have hgl : g < w.heap.size := by
    rcases Nat.lt_or_ge g w.heap.size with h | h
    · exact h
    · simp [World.cell?, Array.getElem?_eq_none h] at hc
  have hgl0 : g0 < w.heap.size := by
    rcases Nat.lt_or_ge g0 w.heap.size with h | h
    · exact h
    · simp [World.cell?, Array.getElem?_eq_none h] at hc0
  obtain ⟨A, hA⟩ : ∃ A, A = Obj.cells #[.pointer (some ⟨tb, 0, none⟩)] 78 := ⟨_, rfl⟩
  obtain ⟨V, hV⟩ : ∃ V, V = Obj.cells #[.pointer (some ⟨7, 78, none⟩), .pointer (some ⟨w.heap.size, 0, none⟩), .int .u64 150] 109 := ⟨_, rfl⟩
  obtain ⟨D, hD⟩ : ∃ D, D = Obj.cells #[.int .i64 c] 39 := ⟨_, rfl⟩
  have n8 := isNilP ⟨w.heap.size, 0, none⟩ ⟨tb, 0, none⟩ ((w.alloc A).alloc V) (by rw [World.cell?_alloc_lt _ _ ⟨w.heap.size, 0, none⟩ (by simp), hA]; simp)
  have hg2 : ((w.alloc A).alloc V).cell? ⟨0, 0, none⟩ = some (.iface 131 (.agg #[.pointer (some ⟨7, 31, none⟩)])) := by
    rw [World.cell?_alloc_lt _ _ ⟨0, 0, none⟩ (by simp), World.cell?_alloc_lt _ _ ⟨0, 0, none⟩ hlt]; exact hq0
  have hc3 : (((w.alloc A).alloc V).alloc V).cell? ⟨g, 2, none⟩ = some (.iface 39 (.int .i64 c)) := by
    rw [World.cell?_alloc_lt _ _ ⟨g, 2, none⟩ (by simp; omega), World.cell?_alloc_lt _ _ ⟨g, 2, none⟩ (by simp; omega), World.cell?_alloc_lt _ _ ⟨g, 2, none⟩ hgl]; exact hc
  have hc03 : (((w.alloc A).alloc V).alloc V).cell? ⟨g0, 2, none⟩ = some (.iface 60 (.pointer (some ⟨g, 0, none⟩))) := by
    rw [World.cell?_alloc_lt _ _ ⟨g0, 2, none⟩ (by simp; omega), World.cell?_alloc_lt _ _ ⟨g0, 2, none⟩ (by simp; omega), World.cell?_alloc_lt _ _ ⟨g0, 2, none⟩ hgl0]; exact hc0
  have el := elemV ⟨w.heap.size, 0, none⟩ ⟨tb, 0, none⟩ (((w.alloc A).alloc V).alloc V) (by rw [World.cell?_alloc_lt _ _ ⟨w.heap.size, 0, none⟩ (by simp; omega), World.cell?_alloc_lt _ _ ⟨w.heap.size, 0, none⟩ (by simp), hA]; simp)
  have st := setC ⟨tb, 0, none⟩ ⟨w.heap.size + 1 + 1 + 1, 0, none⟩ c old ((((w.alloc A).alloc V).alloc V).alloc D)
    (by rw [hD, World.cell?_alloc_at _ _ _ _ (by simp)]; rfl)
    (by rw [World.cell?_alloc_lt _ _ ⟨tb, 0, none⟩ (by simp; omega), World.cell?_alloc_lt _ _ ⟨tb, 0, none⟩ (by simp; omega), World.cell?_alloc_lt _ _ ⟨tb, 0, none⟩ (by simp; omega), World.cell?_alloc_lt _ _ ⟨tb, 0, none⟩ htl]; exact ht0)
    (by rw [World.frozen?_alloc_old _ _ ⟨tb, 0, none⟩ (by simp; omega), World.frozen?_alloc_old _ _ ⟨tb, 0, none⟩ (by simp; omega), World.frozen?_alloc_old _ _ ⟨tb, 0, none⟩ (by simp; omega), World.frozen?_alloc_old _ _ ⟨tb, 0, none⟩ (Nat.ne_of_lt htl)]; exact hf0)
  subst hA hV hD
  clear hgl hgl0 hq0 hc hc0
  go_enter Tryz.func29, Tryz.ntmps29
  go_wp2
  refine wp_loop_rounds 3 ?_
  rw [rounds_succ]
  go_wp2
  rw [rounds_succ]
  go_wp2
  rw [rounds_succ]
  go_wp2
  go_ret
  exact ⟨rfl, rfl⟩

theorem of_fault2 (g0 g' : Nat) (at0' : Int) (wh : ByteArray) (at7 c : Int) (w : World) (hg : ErrType w) (hF0 : w.heap[g0]? = some (.cells #[.string ⟨#[102, 105, 108, 116, 101, 114]⟩, .int .i64 at0', .iface 60 (.pointer (some ⟨g', 0, none⟩))] 62 (0, 0))) (hF' : w.heap[g']? = some (.cells #[.string wh, .int .i64 at7, .iface 39 (.int .i64 c)] 62 (0, 0))) :
    Calls Tryz.prog 11 #[.iface 60 (.pointer (some ⟨g0, 0, none⟩))] w fun e w' => e = .returned (.int .i64 c) ∧ Below w.heap.size w w' := by
  have hlt := hg.lt
  have hgl := lt_of_block hF'
  have hg1 : ErrType (w.alloc (.cells #[.int .i64 0] 39)) := hg.below hlt ((Below.refl _ _).alloc (Nat.le_of_lt (Nat.lt_of_lt_of_le Nat.zero_lt_one hlt)) _ |>.mono (Nat.le_refl _) |> fun h => ⟨h.os, h.tape, h.output, h.size, fun k hk => Below.heap_alloc w _ k hk⟩)
  have hc1 : (w.alloc (.cells #[.int .i64 0] 39)).cell? ⟨g', 2, none⟩ = some (.iface 39 (.int .i64 c)) := by
    rw [World.cell?_alloc_lt _ _ ⟨g', 2, none⟩ hgl]; simp [World.cell?, hF']
  have hgl0 := lt_of_block hF0
  have hc0 : (w.alloc (.cells #[.int .i64 0] 39)).cell? ⟨g0, 2, none⟩ = some (.iface 60 (.pointer (some ⟨g', 0, none⟩))) := by
    rw [World.cell?_alloc_lt _ _ ⟨g0, 2, none⟩ hgl0]; simp [World.cell?, hF0]
  clear hF' hF0
  go_enter Tryz.func11, Tryz.ntmps11
  go_wp2_with fail
  refine (as_fault2 g0 g' w.heap.size c (.int .i64 0) _ hg1 (by simp) (by simp) hc0 hc1).mono ?_
  rintro e w' ⟨rfl, hw'⟩
  have hb : Below w.heap.size w w' := by
    rw [hw']
    refine Below.setCell (((((Below.refl _ _).alloc (Nat.le_refl _) _).alloc (by simp) _).alloc (by simp; omega) _).alloc (by simp; omega) _ |>.alloc (by simp; omega) _) (Nat.le_refl _) _
  have hcell : w'.cell? ⟨w.heap.size, 0, none⟩ = some (.int .i64 c) := by
    rw [hw']
    refine World.cell?_setCell_same' _ _ _ ?_
    rw [World.cell?_alloc_lt _ _ ⟨w.heap.size, 0, none⟩ (by simp; omega), World.cell?_alloc_lt _ _ ⟨w.heap.size, 0, none⟩ (by simp; omega), World.cell?_alloc_lt _ _ ⟨w.heap.size, 0, none⟩ (by simp; omega), World.cell?_alloc_lt _ _ ⟨w.heap.size, 0, none⟩ (by simp)]
    simp
  clear hw'
  go_wp2
  go_ret
  exact ⟨rfl, hb⟩

end Go.Proofs.YtcckoncgfmbhiaaGreatDoor

/- The document's values (wigwagref05): Str, Find, pred. -/
namespace Go.Proofs.YtcckoncgfmbhiaaGreatDoor
open Go.ChangeShapes Go.WideShapes Go.ChangeAt Go.RowKit
set_option linter.unusedVariables false

theorem vbel1 (w : World) (o : Obj) : Below w.heap.size w (w.alloc o) := (Below.refl _ _).alloc (Nat.le_refl _) o
set_option maxHeartbeats 1000000 in
theorem rstr5_any (s : ByteArray) (w : World) (hs : s.size ≤ maxLen) :
    Calls Tryz.prog 48 #[.string s] w fun e w' => Says e (StrOk s) ∧ w' = w := by
  unfold maxLen at hs
  go_enter Tryz.func48, Tryz.ntmps48
  go_wp2
  go_loop [3] (fun i => ∃ k : Nat, k ≤ s.size ∧ i = .int .i64 k ∧ Hid (∀ j (h : j < s.size), j < k → (32 : Int) ≤ (s[j].toNat : Int) ∧ (s[j].toNat : Int) ≤ 126)) (fun i => s.size - (intOf i).toNat)
  case atStart => exact ⟨0, Nat.zero_le _, rfl, (fun j _ h => absurd h (Nat.not_lt_zero _) : ∀ j (h : j < s.size), j < 0 → (32 : Int) ≤ (s[j].toNat : Int) ∧ (s[j].toNat : Int) ≤ 126)⟩
  case round =>
    obtain ⟨k, hk, rfl, I⟩ := hrel
    by_cases hlt : k < s.size
    · by_cases h1 : (s[k].toNat : Int) < 32
      · go_wp2
        go_ret
        exact ⟨Says.no fun h => by have := h.ch k hlt; omega, rfl⟩
      · by_cases h2 : (126 : Int) < (s[k].toNat : Int)
        · go_wp2
          go_ret
          exact ⟨Says.no fun h => by have := h.ch k hlt; omega, rfl⟩
        · have I2 : Hid (∀ j (h : j < s.size), j < k + 1 → (32 : Int) ≤ (s[j].toNat : Int) ∧ (s[j].toNat : Int) ≤ 126) := fun j hj hjk => by
            by_cases e : j = k
            · subst e; omega
            · exact I.out j hj (by omega)
          go_wp2
          go_round
          case rel => exact ⟨k + 1, by omega, by go_num, I2⟩
          case measure => simp [intOf]; omega
    · go_wp2
      go_ret
      exact ⟨Says.dec ⟨fun h => ⟨fun i hi => I.out i hi (by omega), by omega⟩, fun h => by have := h.le; omega⟩, rfl⟩

set_option maxRecDepth 100000 in
set_option maxHeartbeats 2000000 in
theorem rfind5_any (v : Value) (az : List At) (nm : ByteArray) (w : World) (h : AtIn w v az) (hl : az.length ≤ 1000) :
    Calls Tryz.prog 26 #[v, .string nm] w fun e w' => (∃ r, e = .returned (.int .i64 r) ∧ Found az nm r) ∧ Below w.heap.size w w' := by
  obtain ⟨a, c, rfl, _⟩ := h.shape
  have HI : Hid (AtIn w (.slice a az.length c) az) := h
  clear h
  go_enter Tryz.func26, Tryz.ntmps26
  go_wp2
  go_loopg [9] az.length (fun kx s9 wr => ∃ i : Nat, s9 = .int .i64 (i : Int) ∧ i ≤ az.length ∧ kx = az.length - i ∧ Hid (Below w.heap.size w wr ∧ ∀ j, j < i → (az.getD j at0).name ≠ nm))
  case atStart => exact ⟨0, rfl, Nat.zero_le _, rfl, (⟨Below.refl _ _, fun j hj => absurd hj (Nat.not_lt_zero _)⟩ : _ ∧ _)⟩
  case round =>
    obtain ⟨i, rfl, hi, rfl, I⟩ := hrel
    by_cases hlt : i < az.length
    · obtain ⟨g, rfl, hg, hcc, k0, k1, k2, k3⟩ := (HI.out.below I.out.1).row i hlt
      have HB : Hid (∀ o, Below w.heap.size w (wr.alloc o)) := fun o => I.out.1.trans ((vbel1 _ _).mono I.out.1.size)
      by_cases hnm : (az.getD i at0).name = nm
      · have HF : Hid (Found az nm i) := Or.inl ⟨i, rfl, hlt, hnm, I.out.2⟩
        rw [hnm] at k0
        clear hnm
        generalize az.getD i at0 = x at k1 k2 k3
        go_wp2
        go_ret
        exact ⟨⟨_, rfl, HF.out⟩, HB.out _⟩
      · have HN : Hid (∀ j, j < i + 1 → (az.getD j at0).name ≠ nm) := fun j hj => by
          by_cases e : j = i
          · subst e; exact hnm
          · exact I.out.2 j (by omega)
        generalize az.getD i at0 = x at k0 k1 k2 k3 hnm
        obtain ⟨xn, xk, xm, xx⟩ := x
        simp only at k0 k1 k2 k3 hnm
        have h1 : xn.toList ≠ nm.toList := fun e => hnm (toList_inj.1 e)
        have h2 : (xn.toList == nm.toList) = false := by simpa using h1
        clear hnm
        go_wp2
        go_roundg (az.length - (i + 1))
        case measure => omega
        case rel => exact ⟨i + 1, by go_num, by omega, rfl, (⟨HB.out _, HN.out⟩ : _ ∧ _)⟩
    · obtain rfl : i = az.length := by omega
      have HF : Hid (Found az nm (-1)) := Or.inr ⟨rfl, I.out.2⟩
      go_wp2
      go_ret
      exact ⟨⟨_, rfl, HF.out⟩, I.out.1⟩

set_option maxRecDepth 100000 in
set_option maxHeartbeats 4000000 in
theorem rpred5_any (a : At) (p : Pd) (w : World) (hz : p.str.size ≤ maxLen) :
    Calls Tryz.prog 27 #[.agg #[.string a.name, .int .i64 a.kind, .int .i64 a.mn, .int .i64 a.mx], .agg #[.string p.name, .int .i64 p.op, .int .i64 p.lo, .int .i64 p.hi, .string p.str]] w fun e w' => Says e (PredOk a p) ∧ Below w.heap.size w w' := by
  obtain ⟨an, ak, amn, amx⟩ := a
  obtain ⟨pn, op, lo, hi, st⟩ := p
  simp only at hz ⊢
  have HB : Hid (∀ o1 o2, Below w.heap.size w ((w.alloc o1).alloc o2)) := fun o1 o2 => ((Below.refl _ _).alloc (Nat.le_refl _) _).alloc (by simp) _
  have HST : Hid _ := fun W => rstr5_any st W hz
  have h00 : ByteArray.empty.toList = [] := by rw [ByteArray.toList_eq]; rfl
  have he : (st = ByteArray.empty) ↔ st.toList = [] := by
    constructor
    · intro h; rw [h]; exact h00
    · intro h; exact toList_inj.1 (h.trans h00.symm)
  clear h00
  by_cases h1 : op = 1
  · subst h1
    have HP : Hid (PredOk ⟨an, ak, amn, amx⟩ ⟨pn, 1, lo, hi, st⟩ ↔ (ak = 1 ∧ amn ≤ lo ∧ lo ≤ hi ∧ hi ≤ amx ∧ st.toList = [])) := by
      rw [Hid]; unfold PredOk; simp only; rw [he]
      constructor
      · rintro (⟨_, q⟩ | ⟨q, _⟩)
        · exact q
        · omega
      · intro q; exact Or.inl ⟨trivial, q⟩
    clear he HST
    by_cases g1 : ak = 1
    case neg =>
      have b1 : (ak == 1) = false := by simpa using g1
      have HN : Hid (¬ PredOk ⟨an, ak, amn, amx⟩ ⟨pn, 1, lo, hi, st⟩) := fun h => g1 (HP.out.1 h).1
      go_enter Tryz.func27, Tryz.ntmps27
      go_wp2
      go_ret
      exact ⟨Says.no HN.out, HB.out _ _⟩
    by_cases g2 : amn ≤ lo
    case neg =>
      have HN : Hid (¬ PredOk ⟨an, ak, amn, amx⟩ ⟨pn, 1, lo, hi, st⟩) := fun h => g2 (HP.out.1 h).2.1
      subst g1
      go_enter Tryz.func27, Tryz.ntmps27
      go_wp2
      go_ret
      exact ⟨Says.no HN.out, HB.out _ _⟩
    by_cases g3 : lo ≤ hi
    case neg =>
      have HN : Hid (¬ PredOk ⟨an, ak, amn, amx⟩ ⟨pn, 1, lo, hi, st⟩) := fun h => g3 (HP.out.1 h).2.2.1
      subst g1
      go_enter Tryz.func27, Tryz.ntmps27
      go_wp2
      go_ret
      exact ⟨Says.no HN.out, HB.out _ _⟩
    by_cases g4 : hi ≤ amx
    case neg =>
      have HN : Hid (¬ PredOk ⟨an, ak, amn, amx⟩ ⟨pn, 1, lo, hi, st⟩) := fun h => g4 (HP.out.1 h).2.2.2.1
      subst g1
      go_enter Tryz.func27, Tryz.ntmps27
      go_wp2
      go_ret
      exact ⟨Says.no HN.out, HB.out _ _⟩
    by_cases g5 : st.toList = []
    case neg =>
      have HN : Hid (¬ PredOk ⟨an, ak, amn, amx⟩ ⟨pn, 1, lo, hi, st⟩) := fun h => g5 (HP.out.1 h).2.2.2.2
      have b5 : (st.toList == []) = false := by simpa using g5
      subst g1
      go_enter Tryz.func27, Tryz.ntmps27
      go_wp2
      go_ret
      exact ⟨Says.no HN.out, HB.out _ _⟩
    have HY : Hid (PredOk ⟨an, ak, amn, amx⟩ ⟨pn, 1, lo, hi, st⟩) := HP.out.2 ⟨g1, g2, g3, g4, g5⟩
    have b5 : (st.toList == []) = true := by simpa using g5
    subst g1
    go_enter Tryz.func27, Tryz.ntmps27
    go_wp2
    go_ret
    exact ⟨Says.yes HY.out, HB.out _ _⟩
  · have b1 : (op == 1) = false := by simpa using h1
    have HP : Hid (PredOk ⟨an, ak, amn, amx⟩ ⟨pn, op, lo, hi, st⟩ ↔ ((op = 2 ∨ (op = 3 ∧ st.toList ≠ [])) ∧ ak = 2 ∧ lo = 0 ∧ hi = 0 ∧ StrOk st)) := by
      rw [Hid]; unfold PredOk; simp only; rw [Ne, he]
      constructor
      · rintro (⟨q, _⟩ | ⟨q1, q2, q3, q4, q5⟩)
        · exact absurd q h1
        · exact ⟨q1, q2, q4, q5, q3⟩
      · rintro ⟨q1, q2, q3, q4, q5⟩
        exact Or.inr ⟨q1, q2, q5, q3, q4⟩
    clear he
    have hask : (op = 2) ∨ (op = 3 ∧ ¬ st.toList = []) ∨ (op = 3 ∧ st.toList = []) ∨ (¬ op = 2 ∧ ¬ op = 3) := by
      by_cases a : op = 2
      · exact Or.inl a
      · by_cases b : op = 3
        · by_cases c : st.toList = []
          · exact Or.inr (Or.inr (Or.inl ⟨b, c⟩))
          · exact Or.inr (Or.inl ⟨b, c⟩)
        · exact Or.inr (Or.inr (Or.inr ⟨a, b⟩))
    have rest : ∀ (P : Prop), P → P := fun _ h => h
    rcases hask with hop | ⟨hop, hst⟩ | ⟨hop, hst⟩ | ⟨ho2, ho3⟩
    case inr.inr.inl =>
      have HN : Hid (¬ PredOk ⟨an, ak, amn, amx⟩ ⟨pn, op, lo, hi, st⟩) := fun h => by
        rcases (HP.out.1 h).1 with q | q
        · omega
        · exact q.2 hst
      have bs : (st.toList == []) = true := by simpa using hst
      subst hop
      go_enter Tryz.func27, Tryz.ntmps27
      go_wp2
      go_ret
      exact ⟨Says.no HN.out, HB.out _ _⟩
    case inr.inr.inr =>
      have HN : Hid (¬ PredOk ⟨an, ak, amn, amx⟩ ⟨pn, op, lo, hi, st⟩) := fun h => by
        rcases (HP.out.1 h).1 with q | q
        · exact ho2 q
        · exact ho3 q.1
      have b2 : (op == 2) = false := by simpa using ho2
      have b3 : (op == 3) = false := by simpa using ho3
      go_enter Tryz.func27, Tryz.ntmps27
      go_wp2
      go_ret
      exact ⟨Says.no HN.out, HB.out _ _⟩
    all_goals
      have HOP : Hid (op = 2 ∨ (op = 3 ∧ st.toList ≠ [])) := by first | exact Or.inl hop | exact Or.inr ⟨hop, hst⟩
      have bst : True ∧ (¬ st.toList = [] → (st.toList == []) = false) := ⟨trivial, fun h => by simpa using h⟩
      try have bs : (st.toList == []) = false := by simpa using hst
      clear bst rest
      by_cases g1 : ak = 2
      case neg =>
        have HN : Hid (¬ PredOk ⟨an, ak, amn, amx⟩ ⟨pn, op, lo, hi, st⟩) := fun h => g1 (HP.out.1 h).2.1
        have b1 : (ak == 2) = false := by simpa using g1
        subst hop
        go_enter Tryz.func27, Tryz.ntmps27
        go_wp2
        go_ret
        exact ⟨Says.no HN.out, HB.out _ _⟩
      by_cases g2 : lo = 0
      case neg =>
        have HN : Hid (¬ PredOk ⟨an, ak, amn, amx⟩ ⟨pn, op, lo, hi, st⟩) := fun h => g2 (HP.out.1 h).2.2.1
        have b2 : (lo == 0) = false := by simpa using g2
        subst hop g1
        go_enter Tryz.func27, Tryz.ntmps27
        go_wp2
        go_ret
        exact ⟨Says.no HN.out, HB.out _ _⟩
      by_cases g3 : hi = 0
      case neg =>
        have HN : Hid (¬ PredOk ⟨an, ak, amn, amx⟩ ⟨pn, op, lo, hi, st⟩) := fun h => g3 (HP.out.1 h).2.2.2.1
        have b3 : (hi == 0) = false := by simpa using g3
        subst hop g1 g2
        go_enter Tryz.func27, Tryz.ntmps27
        go_wp2
        go_ret
        exact ⟨Says.no HN.out, HB.out _ _⟩
      have HY : Hid (StrOk st ↔ PredOk ⟨an, ak, amn, amx⟩ ⟨pn, op, lo, hi, st⟩) := ⟨fun h => HP.out.2 ⟨HOP.out, g1, g2, g3, h⟩, fun h => (HP.out.1 h).2.2.2.2⟩
      subst hop g1 g2 g3
      go_enter Tryz.func27, Tryz.ntmps27
      go_wp2_with fail
      refine Calls.mono (HST.out _) ?_
      rintro e w' ⟨⟨b, rfl, hb⟩, hw'⟩
      subst w'
      have HBB : Hid (b = true ↔ StrOk st) := hb
      clear hb
      go_wp2
      go_ret
      exact ⟨⟨b, rfl, HBB.out.trans HY.out⟩, HB.out _ _⟩
end Go.Proofs.YtcckoncgfmbhiaaGreatDoor

/- The document's values (wigwagref05): Filter. -/
namespace Go.Proofs.YtcckoncgfmbhiaaGreatDoor
open Go.ChangeShapes Go.WideShapes Go.ChangeAt Go.RowKit
set_option linter.unusedVariables false

theorem fok_iff {az : List At} {ps : List Pd} : FilterOk az ps ↔ 1 ≤ ps.length ∧ ps.length ≤ 4 ∧ ∀ i, i < ps.length → PGood az ps i := Iff.rfl
def RF5 (e : Ending) (P : Prop) : Prop := ∃ r : Int, e = .returned (.int .i64 r) ∧ ((r = -1 ∧ P) ∨ (0 ≤ r ∧ ¬ P))
theorem found_nn {az : List At} {nm : ByteArray} {r : Int} (h : Found az nm r) : (0 ≤ r ∧ ∃ k : Nat, r = k ∧ FindAt az nm k) ∨ (r = -1 ∧ FindNo az nm) := by
  rcases h with ⟨k, hk, hf⟩ | h
  · exact Or.inl ⟨by omega, k, hk, hf⟩
  · exact Or.inr h
theorem find_one {az : List At} {nm : ByteArray} {k k' : Nat} (h : FindAt az nm k) (h' : FindAt az nm k') : k = k' := by
  rcases Nat.lt_trichotomy k k' with q | q | q
  · exact absurd h.2.1 (h'.2.2 k q)
  · exact q
  · exact absurd h'.2.1 (h.2.2 k' q)

set_option maxRecDepth 100000 in
set_option maxHeartbeats 8000000 in
theorem rfilter5_any (v u : Value) (az : List At) (ps : List Pd) (w : World) (h : AtIn w v az) (hv : PdIn w u ps) (hl : az.length ≤ 1000) (hl2 : ps.length ≤ 1000) (hz : ∀ i, i < ps.length → (ps.getD i pd0).str.size ≤ maxLen) :
    Calls Tryz.prog 9 #[v, u] w fun e w' => RF5 e (FilterOk az ps) ∧ Below w.heap.size w w' := by
  obtain ⟨a, c, hav, _⟩ := h.shape
  obtain ⟨b, d, hbv, _⟩ := hv.shape
  subst hav hbv
  have HI : Hid (AtIn w (.slice a az.length c) az ∧ PdIn w (.slice b ps.length d) ps) := ⟨h, hv⟩
  have HZ : Hid _ := hz
  clear h hv hz
  by_cases hlen : 1 ≤ ps.length ∧ ps.length ≤ 4
  case neg =>
    have HN : Hid (¬ FilterOk az ps) := fun hh => hlen ⟨hh.1, hh.2.1⟩
    rcases (show ps.length < 1 ∨ (¬ ps.length < 1 ∧ 4 < ps.length) by omega) with h1 | ⟨h1, h2⟩
    all_goals
      clear hlen
      go_enter Tryz.func9, Tryz.ntmps9
      go_wp2
      go_ret
      exact ⟨⟨0, rfl, Or.inr ⟨by omega, HN.out⟩⟩, Below.refl _ _⟩
  obtain ⟨hl1, hl4⟩ := hlen
  have g1 : ¬ (ps.length : Int) < 1 := by omega
  have g2 : ¬ (4 : Int) < (ps.length : Int) := by omega
  go_enter Tryz.func9, Tryz.ntmps9
  go_wp2_with fail
  go_loopg [21] ps.length (fun kx s21 wr => ∃ i : Nat, s21 = .int .i64 (i : Int) ∧ i ≤ ps.length ∧ kx = ps.length - i ∧ Hid (Below w.heap.size w wr ∧ ∀ j, j < i → PGood az ps j))
  case atStart => exact ⟨0, rfl, Nat.zero_le _, rfl, (⟨Below.refl _ _, fun j hj => absurd hj (Nat.not_lt_zero _)⟩ : _ ∧ _)⟩
  case round =>
    obtain ⟨i, rfl, hi, rfl, I⟩ := hrel
    by_cases hlt : i < ps.length
    case neg =>
      obtain rfl : i = ps.length := by omega
      have HY : Hid (FilterOk az ps) := ⟨hl1, hl4, I.out.2⟩
      go_wp2
      go_ret
      exact ⟨⟨-1, rfl, Or.inl ⟨rfl, HY.out⟩⟩, I.out.1⟩
    obtain ⟨g, hb, hg, hcd, k0, k1, k2, k3, k4⟩ := (HI.out.2.below I.out.1).row i hlt
    subst hb
    obtain ⟨p, hp⟩ : ∃ p, p = ps.getD i pd0 := ⟨_, rfl⟩
    have HPI : Hid (p = ps.getD i pd0) := hp
    rw [← hp] at k0 k1 k2 k3 k4
    clear hp
    obtain ⟨pn, op, lo, hi', st⟩ := p
    simp only at k0 k1 k2 k3 k4
    have HFD : Hid _ := fun W (hA : AtIn W (.slice a az.length c) az) => rfind5_any (.slice a az.length c) az pn W hA hl
    go_wp2_with fail
    refine Calls.mono (HFD.out _ ((HI.out.1.below I.out.1).below (vbel1 _ _))) ?_
    rintro e W1 ⟨⟨r, rfl, hF⟩, b1⟩
    have hB1 : Below w.heap.size w W1 := I.out.1.trans (((vbel1 _ _).trans (b1.mono (by simp))).mono I.out.1.size)
    have zX : W1.heap[wr.heap.size]? = some (.cells #[.string pn, .int .i64 op, .int .i64 lo, .int .i64 hi', .string st] 66 (0, 0)) := (b1.block _ (by simp)).trans (heap_alloc_new wr _)
    have HX : Hid (W1.heap[wr.heap.size]? = some (.cells #[.string pn, .int .i64 op, .int .i64 lo, .int .i64 hi', .string st] 66 (0, 0)) ∧ Below w.heap.size w W1) := ⟨zX, hB1⟩
    have HFO : Hid (Found az pn r) := hF
    have HGD : Hid (∀ j, j < i → PGood az ps j) := I.out.2
    have hr1 : r = -1 ∨ 0 ≤ r := by
      rcases found_nn hF with q | q
      · exact Or.inr q.1
      · exact Or.inl q.1
    have hdc : ∃ ok0 : Bool, ok0 = decide (0 ≤ r) := ⟨_, rfl⟩
    obtain ⟨ok0, hok0⟩ := hdc
    have HOK0 : Hid (ok0 = decide (0 ≤ r)) := hok0
    clear zX hB1 b1 hF k0 k1 k2 k3 k4 I
    generalize wr.heap.size = X at *
    have hid : i ≤ d := by omega
    go_wp2_with fail
    rw [← hok0]
    clear hok0
    go_loopg [8, 36] i (fun kx s8 s36 wq => ∃ (j : Nat) (ok : Bool), s36 = .int .i64 (j : Int) ∧ s8 = .bool ok ∧ j ≤ i ∧ kx = i - j ∧ Hid (Below W1.heap.size W1 wq ∧ (ok = true ↔ (0 ≤ r ∧ ∀ j', j' < j → (ps.getD j' pd0).name ≠ pn))))
    case atStart => exact ⟨0, ok0, rfl, rfl, Nat.zero_le _, rfl, (⟨Below.refl _ _, by rw [HOK0.out]; simp⟩ : _ ∧ _)⟩
    case round =>
      obtain ⟨j, ok, rfl, rfl, hj, rfl, J⟩ := hrel
      have zq := (J.out.1.block X (lt_of_block HX.out.1)).trans HX.out.1
      have HXq : Hid (wr.heap[X]? = some (.cells #[.string pn, .int .i64 op, .int .i64 lo, .int .i64 hi', .string st] 66 (0, 0)) ∧ Below w.heap.size w wr) := ⟨zq, HX.out.2.trans (J.out.1.mono HX.out.2.size)⟩
      have x0 : wr.cell? ⟨X, 0, none⟩ = some (.string pn) := by simp [World.cell?, zq]
      have x1 : wr.cell? ⟨X, 1, none⟩ = some (.int .i64 op) := by simp [World.cell?, zq]
      have x2 : wr.cell? ⟨X, 2, none⟩ = some (.int .i64 lo) := by simp [World.cell?, zq]
      have x3 : wr.cell? ⟨X, 3, none⟩ = some (.int .i64 hi') := by simp [World.cell?, zq]
      have x4 : wr.cell? ⟨X, 4, none⟩ = some (.string st) := by simp [World.cell?, zq]
      have xl := lt_of_block zq
      clear zq
      by_cases hjl : j < i
      · obtain ⟨g', hb', hg', _, m0, m1, m2, m3, m4⟩ := (HI.out.2.below HXq.out.2).row j (by omega)
        have hgg : g' = g := by simpa using hb'.symm
        subst hgg
        have HB : Hid (∀ o, Below W1.heap.size W1 (wr.alloc o)) := fun o => J.out.1.trans ((vbel1 _ _).mono J.out.1.size)
        have HJ : Hid (∀ ok' : Bool, (ok' = true ↔ (ok = true ∧ (ps.getD j pd0).name ≠ pn)) → (ok' = true ↔ (0 ≤ r ∧ ∀ j', j' < j + 1 → (ps.getD j' pd0).name ≠ pn))) := fun ok' hh => by
          rw [hh, J.out.2]
          constructor
          · rintro ⟨⟨q1, q2⟩, q3⟩
            refine ⟨q1, fun j' hj' => ?_⟩
            by_cases e : j' = j
            · subst e; exact q3
            · exact q2 j' (by omega)
          · rintro ⟨q1, q2⟩
            exact ⟨⟨q1, fun j' hj' => q2 j' (by omega)⟩, q2 j (by omega)⟩
        generalize ps.getD j pd0 = y at m0 m1 m2 m3 m4 HJ
        obtain ⟨yn, yo, yl, yh, ys⟩ := y
        simp only at m0 m1 m2 m3 m4 HJ
        cases ok with
        | false =>
          have HN := HJ.out false (by simp)
          have HN2 : Hid _ := HN
          clear HN HJ
          go_wp2
          go_roundg (i - (j + 1))
          case measure => omega
          case rel => exact ⟨j + 1, false, by go_num, rfl, by omega, rfl, (⟨HB.out _, HN2.out⟩ : _ ∧ _)⟩
        | true =>
          by_cases hnm : yn = pn
          · have HN2 : Hid _ := HJ.out false (by simp [hnm])
            subst hnm
            clear HJ
            go_wp2
            go_roundg (i - (j + 1))
            case measure => omega
            case rel => exact ⟨j + 1, false, by go_num, rfl, by omega, rfl, (⟨HB.out _, HN2.out⟩ : _ ∧ _)⟩
          · have HN2 : Hid _ := HJ.out true (by simp [hnm])
            have h1 : pn.toList ≠ yn.toList := fun e => hnm (toList_inj.1 e).symm
            have h2 : (pn.toList == yn.toList) = false := by simpa using h1
            clear HJ hnm
            go_wp2
            go_roundg (i - (j + 1))
            case measure => omega
            case rel => exact ⟨j + 1, true, by go_num, rfl, by omega, rfl, (⟨HB.out _, by have := HN2.out; simpa using this⟩ : _ ∧ _)⟩
      · obtain rfl : j = i := by omega
        have HPG : Hid (PGood az ps j ↔ (ok = true ∧ ∃ k : Nat, r = k ∧ k < az.length ∧ PredOk (az.getD k at0) ⟨pn, op, lo, hi', st⟩)) := by
          rw [Hid]
          unfold PGood
          rw [← HPI.out]
          simp only
          constructor
          · rintro ⟨q1, k, hk, hok⟩
            rcases found_nn HFO.out with ⟨r0, k', hk', hf'⟩ | ⟨_, hno⟩
            · obtain rfl := find_one hk hf'
              exact ⟨J.out.2.2 ⟨r0, q1⟩, k, hk', hk.1, hok⟩
            · exact absurd hk.2.1 (hno k hk.1)
          · rintro ⟨q0, k, hk, hkl, hok⟩
            obtain ⟨r0, q1⟩ := J.out.2.1 q0
            rcases found_nn HFO.out with ⟨_, k', hk', hf'⟩ | ⟨hr, _⟩
            · have : k = k' := by omega
              subst this
              exact ⟨q1, k, hf', hok⟩
            · omega
        have HNX : Hid (PGood az ps j → ∀ j', j' < j + 1 → PGood az ps j') := fun hp j' hj' => by
          by_cases e : j' = j
          · subst e; exact hp
          · exact HGD.out j' (by omega)
        have HNO : Hid (¬ PGood az ps j → ¬ FilterOk az ps) := fun hn hf => hn (hf.2.2 j hlt)
        cases ok with
        | false =>
          have HN : Hid (¬ FilterOk az ps) := HNO.out (fun hp => by have := (HPG.out.1 hp).1; cases this)
          clear HPG HNX HNO
          go_wp2_with fail
          go_quiet (fail)
          go_wp2
          go_ret
          exact ⟨⟨_, rfl, Or.inr ⟨by omega, HN.out⟩⟩, HXq.out.2.trans ⟨rfl, rfl, rfl, Nat.le_refl _, fun _ _ => rfl⟩⟩
        | true =>
          obtain ⟨k, rfl, hkf⟩ : ∃ k : Nat, r = k ∧ FindAt az pn k := by
            rcases found_nn HFO.out with ⟨_, k, hk, hf⟩ | ⟨hr, _⟩
            · exact ⟨k, hk, hf⟩
            · have := (J.out.2.1 rfl).1; omega
          have hkl := hkf.1
          obtain ⟨ga, hga, hgal, hcc, n0, n1, n2, n3⟩ := (HI.out.1.below HXq.out.2).row k hkl
          subst hga
          have HPD : Hid _ := fun W => rpred5_any (az.getD k at0) ⟨pn, op, lo, hi', st⟩ W (by have := HZ.out j hlt; rw [← HPI.out] at this; exact this)
          have HPG2 : Hid (PGood az ps j ↔ PredOk (az.getD k at0) ⟨pn, op, lo, hi', st⟩) := by
            rw [Hid, HPG.out]
            constructor
            · rintro ⟨_, k', hk', _, hok⟩
              have : k = k' := by omega
              subst this; exact hok
            · intro hok; exact ⟨rfl, k, rfl, hkl, hok⟩
          obtain ⟨pb, hpb⟩ : ∃ pb : Bool, (pb = true ↔ PGood az ps j) := ⟨@decide (PGood az ps j) (Classical.propDecidable _), @decide_eq_true_iff _ (Classical.propDecidable _)⟩
          have HPB : Hid (pb = true ↔ PGood az ps j) := hpb
          have HPC : Hid (∀ W, Calls Tryz.prog 27 #[.agg #[.string (az.getD k at0).name, .int .i64 (az.getD k at0).kind, .int .i64 (az.getD k at0).mn, .int .i64 (az.getD k at0).mx], .agg #[.string pn, .int .i64 op, .int .i64 lo, .int .i64 hi', .string st]] W fun e w' => e = .returned (.bool pb) ∧ Below W.heap.size W w') := fun W => by
            refine (HPD.out W).mono ?_
            rintro e w' ⟨⟨cb, rfl, hcb⟩, hbw⟩
            refine ⟨?_, hbw⟩
            have : cb = pb := Bool.eq_iff_iff.2 (hcb.trans (HPG2.out.symm.trans HPB.out.symm))
            rw [this]
          clear hpb HPD HPG HPG2 hkf
          generalize az.getD k at0 = y at n0 n1 n2 n3 HPC
          obtain ⟨yn, yk, ym, yx⟩ := y
          simp only at n0 n1 n2 n3 HPC
          obtain ⟨ι, F, _, hF0, hFb, hFc⟩ := grown_fam wr
          have f0 : ∀ t, (F t).cell? ⟨X, 0, none⟩ = some (.string pn) := fun t => cell_grown x0 (hFb t)
          have f1 : ∀ t, (F t).cell? ⟨X, 1, none⟩ = some (.int .i64 op) := fun t => cell_grown x1 (hFb t)
          have f2 : ∀ t, (F t).cell? ⟨X, 2, none⟩ = some (.int .i64 lo) := fun t => cell_grown x2 (hFb t)
          have f3 : ∀ t, (F t).cell? ⟨X, 3, none⟩ = some (.int .i64 hi') := fun t => cell_grown x3 (hFb t)
          have f4 : ∀ t, (F t).cell? ⟨X, 4, none⟩ = some (.string st) := fun t => cell_grown x4 (hFb t)
          have e0 : ∀ t, (F t).cell? ⟨ga, k * 4, none⟩ = some (.string yn) := fun t => cell_grown n0 (hFb t)
          have e1 : ∀ t, (F t).cell? ⟨ga, k * 4 + 1, none⟩ = some (.int .i64 yk) := fun t => cell_grown n1 (hFb t)
          have e2 : ∀ t, (F t).cell? ⟨ga, k * 4 + 2, none⟩ = some (.int .i64 ym) := fun t => cell_grown n2 (hFb t)
          have e3 : ∀ t, (F t).cell? ⟨ga, k * 4 + 3, none⟩ = some (.int .i64 yx) := fun t => cell_grown n3 (hFb t)
          have HF : Hid ((∃ i, { wr with drawn := wr.drawn + 1 } = F i) ∧ (∀ i, Below wr.heap.size wr (F i)) ∧ (∀ i W, Below wr.heap.size (F i) W → ∃ j, W = F j)) := ⟨hF0, hFb, hFc⟩
          clear hF0 hFb hFc x0 x1 x2 x3 x4 n0 n1 n2 n3
          go_wp2_with fail
          refine wp_region_fam F HF.out.1 (by kernel_rfl) (by kernel_rfl) ?_
          repeat (go_big_quiet_step ((go_at_call 27; refine Calls.mono (HPC.out _) ?_; rintro e' w' ⟨hs, hb⟩; exact ⟨hs, HF.out.2.2 _ _ (hb.mono (HF.out.2.1 _).size)⟩)))
          refine wpQuiet_nil ?_
          rintro _ ⟨fi, rfl⟩
          have BF : Hid (Below w.heap.size w (F fi)) := HXq.out.2.trans ((HF.out.2.1 fi).mono HXq.out.2.size)
          generalize F fi = W5 at BF ⊢
          clear HF f0 f1 f2 f3 f4 e0 e1 e2 e3
          cases pb with
          | true =>
            have HN2 : Hid (∀ j', j' < j + 1 → PGood az ps j') := HNX.out (HPB.out.1 rfl)
            go_wp2
            go_roundg (ps.length - (j + 1))
            case measure => omega
            case rel => exact ⟨j + 1, by go_num, by omega, rfl, (⟨BF.out, HN2.out⟩ : _ ∧ _)⟩
          | false =>
            have HN : Hid (¬ FilterOk az ps) := HNO.out (fun hp => by have := HPB.out.2 hp; cases this)
            go_wp2
            go_ret
            exact ⟨⟨_, rfl, Or.inr ⟨by omega, HN.out⟩⟩, BF.out⟩
end Go.Proofs.YtcckoncgfmbhiaaGreatDoor

/- What the tied variables give a walk: errors.errorType's cell, strconv's table and errors. -/
namespace Go.Proofs.YtcckoncgfmbhiaaGreatDoor
open Go.ChangeShapes Go.WideShapes Go.ChangeAt Go.RowKit Go.Extern.Stop Go.Stop Go.Extern
set_option linter.unusedVariables false

abbrev seatLaid : List (String × DataW Unit) := [("math/bits.deBruijn32tab", Rows.laid_math_bits_deBruijn32tab), ("math/bits.deBruijn64tab", Rows.laid_math_bits_deBruijn64tab), ("internal/strconv.uint64pow10", Rows.laid_internal_strconv_uint64pow10), ("errors.errorType", Rows.laid_errors_errorType), ("strconv.ErrRange", Rows.laid_strconv_ErrRange), ("strconv.ErrSyntax", Rows.laid_strconv_ErrSyntax)]
theorem etD : Tryz.prog.globalNamed "errors.errorType" = some 0 := by kernel_rfl
theorem rtD : (Tryz.prog.cutTypes.find? (·.1 == "internal/reflectlite.rtype")).map (·.2) = some 131 := by kernel_rfl
theorem oneRowD : ((List.range Tryz.prog.types.size).filter fun t => Tryz.prog.rowNamed t [101, 114, 114, 111, 114]) = [31] := by kernel_rfl
theorem cell_ltD {w : World} {g : Nat} {v : Value} (h : w.cell? ⟨g, 0, none⟩ = some v) : g < w.heap.size := by
  rcases Nat.lt_or_ge g w.heap.size with q | q
  · exact q
  · simp [World.cell?, Array.getElem?_eq_none q] at h
set_option maxRecDepth 100000 in
/-- A variable of type error that holds a fault of the library's: its cell. -/
theorem iface_of_laid {W : World} {n : String} {g : Nat} {nm : String} {d : DataW Unit} (hg : Tryz.prog.globalNamed n = some g) (hty : (Tryz.prog.globals[g]?).map (·.type) = some 31) (h : laidMet Tryz.prog [(n, .iface nm d)] W) :
    ∃ t v, W.cell? ⟨g, 0, none⟩ = some (.iface t v) := by
  obtain ⟨ps, ⟨g', t', cs, fuel, p, q, hg', ht', hvar, hd, _, _⟩, _⟩ := h
  obtain rfl := Option.some.inj (hg.symm.trans hg')
  obtain rfl := Option.some.inj (hty.symm.trans ht')
  have hc := World.var?_cell hg hvar 0
  have hu := Tryz.underlying31
  obtain ⟨l⟩ := cs
  cases fuel with
  | zero => unfold DataW.trod at hd; cases hd
  | succ fuel =>
    unfold DataW.trod at hd
    rw [hu] at hd
    match l, hd, hc with
    | [.iface t v], _, hc => exact ⟨t, v, by simpa using hc⟩
    | [.nilIface], hd, _ => simp at hd
set_option maxRecDepth 100000 in
theorem env_of_laid {W : World} (h : laidMetH Tryz.prog seatLaid W) : Env W ∧ ErrType W := by
  obtain ⟨h1, h2⟩ := laidMetH_iff.1 h
  have f1 := h1.filter (fun x => x.1 == "internal/strconv.uint64pow10")
  have f2 := h1.filter (fun x => x.1 == "strconv.ErrSyntax")
  have f3 := h1.filter (fun x => x.1 == "strconv.ErrRange")
  have f4 := h1.filter (fun x => x.1 == "math/bits.deBruijn64tab")
  have g1 : laidMet Tryz.prog [("internal/strconv.uint64pow10", Lib.tabData .u64 Lib.pow10Tab)] W := f1
  have g2 : laidMet Tryz.prog [("strconv.ErrSyntax", Rows.laid_strconv_ErrSyntax)] W := f2
  have g3 : laidMet Tryz.prog [("strconv.ErrRange", Rows.laid_strconv_ErrRange)] W := f3
  have g4 : laidMet Tryz.prog [("math/bits.deBruijn64tab", Rows.laid_math_bits_deBruijn64tab)] W := f4
  refine ⟨⟨?_, iface_of_laid (by kernel_rfl) (by kernel_rfl) g2, iface_of_laid (by kernel_rfl) (by kernel_rfl) g3, ?_⟩, ?_⟩
  · exact Lib.tabIs_of_head (P := Tryz.prog) (g := 2) (by kernel_rfl) (t := 163) (by kernel_rfl) Tryz.underlying163 Tryz.underlying81 (by kernel_rfl) (by kernel_rfl) g1
  · obtain ⟨ps, ⟨g', t', cs, fuel, p, q, hg', ht', hvar, hd, _, _⟩, _⟩ := g4
    have hgg : Tryz.prog.globalNamed "math/bits.deBruijn64tab" = some 4 := by kernel_rfl
    unfold World.var? at hvar
    rw [hgg] at hvar
    simp only [Option.bind_some] at hvar
    have hlt : 4 < W.heap.size := by
      rcases Nat.lt_or_ge 4 W.heap.size with q | q
      · exact q
      · rw [Array.getElem?_eq_none q] at hvar; simp at hvar
    obtain ⟨_, _, h3⟩ := iface_of_laid (g := 6) (by kernel_rfl) (by kernel_rfl) g3
    have hl3 : 6 < W.heap.size := cell_ltD h3
    omega
  · obtain ⟨name, u, ty, e1, e2, e3, e4, e5⟩ := h2 ("errors.errorType", Rows.laid_errors_errorType) (List.mem_filter.2 ⟨List.Mem.tail _ (List.Mem.tail _ (List.Mem.tail _ (List.Mem.head _))), rfl⟩)
    have en : name = [101, 114, 114, 111, 114] := (Option.some.inj e1).symm
    subst en
    obtain rfl := Option.some.inj (rtD.symm.trans e2)
    have hm : ty ∈ (List.range Tryz.prog.types.size).filter fun t => Tryz.prog.rowNamed t [101, 114, 114, 111, 114] := List.mem_filter.2 ⟨List.mem_range.2 e3, e4⟩
    rw [oneRowD] at hm
    obtain rfl := List.mem_singleton.1 hm
    have hh : typeHandle Tryz.prog 31 = .pointer (some ⟨7, 31, none⟩) := by kernel_rfl
    rw [hh] at e5
    unfold ErrType
    simpa using World.var?_cell etD e5 0
/-- A world in which the variables hold what they should: that there is one. -/
def litCells : DataW Unit → Array Value
  | .agg ps => (ps.map fun | .lit (.int k n) => Value.int k n | _ => Value.nilIface).toArray
  | _ => #[]
def setB (h : Array Obj) (g : Nat) (cs : Array Value) : Array Obj := h.modify g fun | .cells _ t frozen => .cells cs t frozen | o => o
def witHeap (h : Array Obj) : Array Obj :=
  ((setB (setB (setB (setB (setB (setB h 0 #[.iface 131 (.agg #[.pointer (some ⟨7, 31, none⟩)])]) 5 #[.iface 183 (.pointer (some ⟨h.size, 0, none⟩))]) 6 #[.iface 183 (.pointer (some ⟨h.size + 1, 0, none⟩))])
    2 (litCells Rows.laid_internal_strconv_uint64pow10)) 3 (litCells Rows.laid_math_bits_deBruijn32tab)) 4 (litCells Rows.laid_math_bits_deBruijn64tab)).push
      (.cells #[.string ⟨#[105, 110, 118, 97, 108, 105, 100, 32, 115, 121, 110, 116, 97, 120]⟩] 185)).push (.cells #[.string ⟨#[118, 97, 108, 117, 101, 32, 111, 117, 116, 32, 111, 102, 32, 114, 97, 110, 103, 101]⟩] 185)
theorem wit_laid (os : Os) : laidMetH Tryz.prog seatLaid { World.holding Tryz.prog os ⟨#[], #[], []⟩ with heap := witHeap (World.holding Tryz.prog os ⟨#[], #[], []⟩).heap } :=
  laidMetH_of_parts (laidMet_of_run' 8 (by kernel_rfl) (by kernel_rfl)) (by kernel_rfl)
end Go.Proofs.YtcckoncgfmbhiaaGreatDoor

/- wigwaglaw06.FilterReads, walked. -/
namespace Go.Proofs.YtcckoncgfmbhiaaGreatDoor
open Go.ChangeShapes Go.WideShapes Go.ChangeAt Go.RowKit
set_option linter.unusedVariables false

theorem wr_newF (B : Nat) (w : World) (hB : B ≤ w.heap.size) : Wr B (w.alloc (.cells #[.slice none 0 0] 43)) w.heap.size (.slice none 0 0) [] :=
  ⟨hB, heap_alloc_new w _, World.ownsRow_nil _ _ _ _, by simp [Value.ownBlock]⟩
theorem Wr.belowF {B : Nat} {w w' : World} {p : Nat} {v : Value} {l : List UInt8} (h : Wr B w p v l) (hb : Below w.heap.size w w') : Wr B w' p v l :=
  ⟨h.lo, (hb.block p h.lt).trans h.box, own_carryP h.row hb, h.apart⟩
/-- A text as bytes. -/
def txB (t : ByteArray) : ByteArray := ⟨(numB t.size ++ t.data.toList).toArray⟩
theorem rbytes_any (v : Value) (ps : List Pl) (w : World) (h : PlIn w v ps) (hl : ps.length ≤ 100) (hp : ∀ p ∈ ps, PrnL p) :
    Calls Tryz.prog 19 #[v] w fun e w' => e = .returned (.string (txB (ba (pF ps)))) ∧ Below w.heap.size w w' := by
  have H1 : Hid _ := rprint_any v ps w h hl hp
  have hz : (ba (pF ps)).size ≤ 1000000 := by
    rw [ba_size]
    have := pF_le ps hp
    omega
  have H2 : Hid (∀ W, Calls Tryz.prog 39 #[.string (ba (pF ps))] W fun e w' => e = .returned (.string (txB (ba (pF ps)))) ∧ Below W.heap.size W w') := fun W => ref_text _ W hz
  clear h hl hp
  generalize ba (pF ps) = t at *
  generalize txB t = B at *
  go_enter Tryz.func19, Tryz.ntmps19
  go_wp2_with fail
  refine Calls.mono H1.out ?_
  rintro e W1 ⟨rfl, b1⟩
  have HB : Hid (Below w.heap.size w W1) := b1
  clear b1
  go_wp2_with fail
  refine Calls.mono (H2.out _) ?_
  rintro e W2 ⟨rfl, b2⟩
  have HB2 : Hid (Below w.heap.size w W2) := HB.out.trans (b2.mono HB.out.size)
  clear b2
  go_wp2
  go_ret
  exact ⟨rfl, HB2.out⟩

/-- The two schemas lie where they lay, the library's variables too. -/
structure Fr (w W : World) (v1 v2 : Value) (L : List At) : Prop where
  a1 : AtIn W v1 L
  a2 : AtIn W v2 L
  env : Env W ∧ ErrType W
  bel : Below w.heap.size w W
theorem Fr.below {w W W' : World} {v1 v2 : Value} {L : List At} (h : Fr w W v1 v2 L) (hb : Below W.heap.size W W') : Fr w W' v1 v2 L :=
  ⟨h.a1.below hb, h.a2.below hb, ⟨h.env.1.below hb h.env.1.lt, h.env.2.below h.env.2.lt hb⟩, h.bel.trans (hb.mono h.bel.size)⟩
theorem ReadAns.below {W W' : World} {u er : Value} {az : List At} {ps : List Pl} {cd pl : Int} (h : ReadAns W u er az ps cd pl) (hb : Below W.heap.size W W') : ReadAns W' u er az ps cd pl := by
  rcases h with ⟨h0, h1, N, h2, h3⟩ | ⟨h0, h1, h2, N, h3, h4⟩ | ⟨h0, h1, h2, h3⟩
  · exact Or.inl ⟨h0, h1, N, h2, h3.below hb⟩
  · exact Or.inr (Or.inl ⟨h0, h1, h2, N, h3, h4.below hb⟩)
  · exact Or.inr (Or.inr ⟨h0, h1, h2, h3.below hb⟩)

set_option maxRecDepth 100000 in
set_option maxHeartbeats 4000000 in
theorem reads_walk (a0 : Option Addr) (len0 cap0 : Nat) (t0 : List At) (a1 : ByteArray) (w : World) (hE : ErrType w) (hV : Env w) (w0 : InRow 4 At.cells At.ok at0 w a0 len0 t0) (w1 : a1.size ≤ maxLen) :
    Calls Tryz.prog 3 #[.slice a0 len0 cap0, .string a1] w fun e w' => e = .returned (.bool true) ∧ Below w.heap.size w w' := by
  obtain ⟨L, hL⟩ : ∃ L, L = (t0.take 6).map cutA := ⟨_, rfl⟩
  have lL : L.length ≤ 6 := by rw [hL]; simp; omega
  have hc1 := attrs_any a0 len0 cap0 t0 w w0
  rw [← hL] at hc1
  have HE : Hid (Env w ∧ ErrType w) := ⟨hV, hE⟩
  have hcs := cut_size a1 400
  have HC : Hid (∀ W, Calls Tryz.prog 6 #[.string a1, .int .i64 (400 : Nat)] W fun e w' => e = .returned (.string (cut a1 400)) ∧ w' = W) := fun W => cut_any a1 400 W w1
  clear hL w0 hE hV
  generalize cut a1 400 = s at *
  obtain ⟨ps, cd, pl, hps, hpr, hT⟩ := two_q s (by omega)
  have HT : Hid (TwoQ s ps cd pl) := hT
  have HPR : Hid (∀ p ∈ ps, PrnL p) := hpr
  clear hT hpr
  go_enter Tryz.func3, Tryz.ntmps3
  go_wp2_with fail
  refine hc1.mono ?_
  rintro e W1 ⟨v1, v2, rfl, R1⟩
  clear hc1
  have M1 : Hid (Fr w W1 v1 v2 L) := ⟨AtIn.ofOwn R1.r1, AtIn.ofOwn R1.r2, ⟨HE.out.1.below R1.bel HE.out.1.lt, HE.out.2.below HE.out.2.lt R1.bel⟩, R1.bel⟩
  clear R1
  go_wp2_with fail
  refine Calls.mono (HC.out _) ?_
  rintro e w' ⟨rfl, hw'⟩
  subst w'
  go_wp2_with fail
  refine Calls.mono (read_any v1 L s ps cd pl _ M1.out.env.1 M1.out.a1 (by omega) hps HPR.out HT.out) ?_
  rintro e W2 ⟨u, er, rfl, hR, b2⟩
  have M2 : Hid (Fr w W2 v1 v2 L ∧ ReadAns W2 u er L ps cd pl) := ⟨M1.out.below b2, hR⟩
  clear hR b2 M1
  go_wp2_with fail
  refine Calls.mono (HT.out.2 _) ?_
  rintro e W3 ⟨x, rfl, hP, b3⟩
  have M3 : Hid (Fr w W3 v1 v2 L ∧ ReadAns W3 u er L ps cd pl ∧ PlIn W3 x ps) := ⟨M2.out.1.below b3, M2.out.2.below b3, hP⟩
  clear hP b3 M2
  rcases M3.out.2.1 with ⟨h0, rfl, N, rfl, hF⟩ | ⟨rfl, hno, rfl, N, rfl, hF⟩ | ⟨rfl, hok, rfl, hP⟩
  · have HF : Hid (FaultAt W3 N pl cd) := hF
    have M4 : Hid (Fr w W3 v1 v2 L) := M3.out.1
    have hb0 : (cd == 0) = false := by simpa using h0
    have hbb : (cd == cd) = true := by simp
    clear hF M3 HPR HT
    go_wp2_with fail
    refine Calls.mono (awake6_any _ M4.out.env.1 M4.out.env.2) ?_
    rintro e W5 ⟨rfl, b5⟩
    have M5 : Hid (Fr w W5 v1 v2 L ∧ FaultAt W5 N pl cd) := ⟨M4.out.below b5, HF.out.below b5⟩
    clear b5 M4 HF
    go_wp2_with fail
    refine Calls.mono (of_fault N pl cd _ M5.out.1.env.2 M5.out.2) ?_
    rintro e W6 ⟨rfl, b6⟩
    have M6 : Hid (Fr w W6 v1 v2 L) := M5.out.1.below b6
    clear b6 M5
    go_wp2
    go_ret
    exact ⟨rfl, M6.out.bel⟩
  · have HF : Hid (FaultIn W3 N ∧ ¬ FilterOk L (ps.map pdOf)) := ⟨hF, hno⟩
    have hpl : (ps.map pdOf).length ≤ 1000 := by rw [List.length_map]; exact hps
    have HS : Hid _ := pl_str HPR.out
    clear hF hno HPR HT
    go_wp2_with fail
    refine Calls.mono (rfilter5_any v2 x L (ps.map pdOf) _ M3.out.1.a2 (PdIn.ofPl M3.out.2.2) (by omega) hpl HS.out) ?_
    rintro e W4 ⟨⟨r, rfl, hr⟩, b4⟩
    have hr0 : 0 ≤ r := by
      rcases hr with ⟨_, h⟩ | ⟨h, _⟩
      · exact absurd h HF.out.2
      · exact h
    have M4 : Hid (Fr w W4 v1 v2 L ∧ FaultIn W4 N) := ⟨M3.out.1.below b4, HF.out.1.below b4⟩
    clear b4 M3 HF hr HS
    go_wp2_with fail
    refine Calls.mono (awake6_any _ M4.out.1.env.1 M4.out.1.env.2) ?_
    rintro e W5 ⟨rfl, b5⟩
    have M5 : Hid (Fr w W5 v1 v2 L ∧ FaultIn W5 N) := ⟨M4.out.1.below b5, M4.out.2.below b5⟩
    clear b5 M4
    obtain ⟨M, fa, fb, hN, hM⟩ := M5.out.2
    have HO : Hid _ := of_fault2 N M fa _ fb 3 W5 M5.out.1.env.2 hN hM
    clear hN hM
    go_wp2_with fail
    refine Calls.mono HO.out ?_
    rintro e W6 ⟨rfl, b6⟩
    have M6 : Hid (Fr w W6 v1 v2 L) := M5.out.1.below b6
    clear b6 M5 HO
    go_wp2
    go_ret
    exact ⟨rfl, M6.out.bel⟩
  · have hpl : (ps.map pdOf).length ≤ 1000 := by rw [List.length_map]; exact hps
    have HOK : Hid (FilterOk L (ps.map pdOf)) := hok
    have HS : Hid _ := pl_str HPR.out
    have HLQ : Hid (ps.length ≤ 100 ∧ ps ≠ []) := by
      have h1 := hok.1
      have h2 := hok.2.1
      rw [List.length_map] at h1 h2
      exact ⟨by omega, fun e => by rw [e] at h1; simp at h1⟩
    have M3' : Hid (Fr w W3 v1 v2 L ∧ PlIn W3 u ps ∧ PlIn W3 x ps) := ⟨M3.out.1, hP, M3.out.2.2⟩
    have HPT : Hid (∀ (W : World) (v : Value), Env W → PlIn W v ps → Calls Tryz.prog 13 #[v] W fun e w' => e = .returned (.string (ba (pF ps))) ∧ Below W.heap.size W w') := fun W v E h => print_any v ps W E h HLQ.out.2 HLQ.out.1 HPR.out
    have HRP : Hid (∀ (W : World) (v : Value), PlIn W v ps → Calls Tryz.prog 16 #[v] W fun e w' => e = .returned (.string (ba (pF ps))) ∧ Below W.heap.size W w') := fun W v h => rprint_any v ps W h HLQ.out.1 HPR.out
    have HRB : Hid (∀ (W : World) (v : Value), PlIn W v ps → Calls Tryz.prog 19 #[v] W fun e w' => e = .returned (.string (txB (ba (pF ps)))) ∧ Below W.heap.size W w') := fun W v h => rbytes_any v ps W h HLQ.out.1 HPR.out
    have htz : (ba (pF ps)).size ≤ 400000 := by
      rw [ba_size]
      have := pF_le ps HPR.out
      have := HLQ.out.1
      omega
    have HBY : Hid (∀ B p v W, Wr B W p v ([] ++ (numB (ba (pF ps)).size ++ (ba (pF ps)).data.toList)) → Calls Tryz.prog 18 #[.pointer (some ⟨p, 0, none⟩)] W fun e w' => e = .returned (.string (txB (ba (pF ps)))) ∧ w' = W) := fun B p v W h => bytes_any B p v _ W h
    have HTX : Hid (∀ B p v W, Wr B W p v [] → B ≤ W.heap.size → Calls Tryz.prog 12 #[.pointer (some ⟨p, 0, none⟩), .string (ba (pF ps))] W fun e w' => e = .returned (.tuple #[]) ∧ ∃ v', Wr B w' p v' ([] ++ (numB (ba (pF ps)).size ++ (ba (pF ps)).data.toList)) ∧ Kept W w' p v v') := fun B p v W h hB => wtext_any B p v [] _ W h hB (by omega) (by simp)
    clear hok hP M3 HT HPR
    generalize [] ++ (numB (ba (pF ps)).size ++ (ba (pF ps)).data.toList) = LB at HBY HTX
    generalize ba (pF ps) = t at *
    generalize txB t = tb at *
    go_wp2_with fail
    refine Calls.mono (rfilter5_any v2 x L (ps.map pdOf) _ M3'.out.1.a2 (PdIn.ofPl M3'.out.2.2) (by omega) hpl HS.out) ?_
    rintro e W4 ⟨⟨r, rfl, hr⟩, b4⟩
    obtain rfl : r = -1 := by
      rcases hr with ⟨h, _⟩ | ⟨_, h⟩
      · exact h
      · exact absurd HOK.out h
    have M4 : Hid (Fr w W4 v1 v2 L ∧ PlIn W4 u ps ∧ PlIn W4 x ps) := ⟨M3'.out.1.below b4, M3'.out.2.1.below b4, M3'.out.2.2.below b4⟩
    clear b4 M3' hr
    go_wp2_with fail
    refine Calls.mono (awake6_any _ M4.out.1.env.1 M4.out.1.env.2) ?_
    rintro e W5 ⟨rfl, b5⟩
    have M5 : Hid (Fr w W5 v1 v2 L ∧ PlIn W5 u ps ∧ PlIn W5 x ps) := ⟨M4.out.1.below b5, M4.out.2.1.below b5, M4.out.2.2.below b5⟩
    clear b5 M4
    go_wp2_with fail
    refine Calls.mono (of_nil _) ?_
    rintro e w' ⟨rfl, hw'⟩
    subst w'
    go_wp2_with fail
    have HW : Hid (Wr W5.heap.size (W5.alloc (.cells #[.slice none 0 0] 43)) W5.heap.size (.slice none 0 0) [] ∧ Below W5.heap.size W5 (W5.alloc (.cells #[.slice none 0 0] 43))) := ⟨wr_newF _ _ (Nat.le_refl _), pbel1 _ _⟩
    generalize W5.alloc (.cells #[.slice none 0 0] 43) = WA at HW ⊢
    refine Calls.mono (HPT.out _ _ (M5.out.1.below HW.out.2).env.1 (M5.out.2.1.below HW.out.2)) ?_
    rintro e W6 ⟨rfl, b6⟩
    have HW6 : Hid (Wr W5.heap.size W6 W5.heap.size (.slice none 0 0) [] ∧ Below W5.heap.size W5 W6) := ⟨HW.out.1.belowF b6, HW.out.2.trans (b6.mono HW.out.2.size)⟩
    clear b6 HW
    go_wp2_with fail
    refine Calls.mono (HTX.out _ _ _ _ HW6.out.1 HW6.out.2.size) ?_
    rintro e W7 ⟨rfl, v', hW7, hK⟩
    have b7 : Below W5.heap.size W5 W7 := hK.below HW6.out.1 HW6.out.2 HW6.out.2.size
    have M7 : Hid (Fr w W7 v1 v2 L ∧ PlIn W7 u ps ∧ PlIn W7 x ps) := ⟨M5.out.1.below b7, M5.out.2.1.below b7, M5.out.2.2.below b7⟩
    have HW7 : Hid (Wr W5.heap.size W7 W5.heap.size v' LB) := hW7
    clear hW7 hK b7 HW6 M5
    generalize W5.heap.size = X at *
    go_wp2_with fail
    refine Calls.mono (told_any u ps _ M7.out.2.1 hps) ?_
    rintro e W8 ⟨x1, rfl, hr8, b8⟩
    have M8 : Hid (Fr w W8 v1 v2 L ∧ PlIn W8 u ps ∧ PlIn W8 x ps ∧ PlIn W8 x1 ps ∧ Wr X W8 X v' LB) := ⟨M7.out.1.below b8, M7.out.2.1.below b8, M7.out.2.2.below b8, PlIn.ofOwn hr8, HW7.out.belowF b8⟩
    clear b8 M7 hr8 HW7
    go_wp2_with fail
    refine Calls.mono (same_yes x1 x ps _ M8.out.2.2.2.1 M8.out.2.2.1 hps) ?_
    rintro e W9 ⟨rfl, b9⟩
    have M9 : Hid (Fr w W9 v1 v2 L ∧ PlIn W9 u ps ∧ PlIn W9 x ps ∧ Wr X W9 X v' LB) := ⟨M8.out.1.below b9, M8.out.2.1.below b9, M8.out.2.2.1.below b9, M8.out.2.2.2.2.belowF b9⟩
    clear b9 M8
    go_wp2_with fail
    refine Calls.mono (HPT.out _ _ M9.out.1.env.1 M9.out.2.1) ?_
    rintro e W10 ⟨rfl, b10⟩
    have M10 : Hid (Fr w W10 v1 v2 L ∧ PlIn W10 u ps ∧ PlIn W10 x ps ∧ Wr X W10 X v' LB) := ⟨M9.out.1.below b10, M9.out.2.1.below b10, M9.out.2.2.1.below b10, M9.out.2.2.2.belowF b10⟩
    clear b10 M9
    go_wp2_with fail
    refine Calls.mono (HRP.out _ _ M10.out.2.2.1) ?_
    rintro e W11 ⟨rfl, b11⟩
    have M11 : Hid (Fr w W11 v1 v2 L ∧ PlIn W11 u ps ∧ PlIn W11 x ps ∧ Wr X W11 X v' LB) := ⟨M10.out.1.below b11, M10.out.2.1.below b11, M10.out.2.2.1.below b11, M10.out.2.2.2.belowF b11⟩
    clear b11 M10
    go_wp2_with fail
    refine Calls.mono (filter_any v1 u L (ps.map pdOf) _ M11.out.1.a1 (PdIn.ofPl M11.out.2.1) (by omega) hpl HS.out) ?_
    rintro e W12 ⟨hEF, b12⟩
    have := hEF.t HOK.out
    subst this
    have M12 : Hid (Fr w W12 v1 v2 L ∧ PlIn W12 x ps ∧ Wr X W12 X v' LB) := ⟨M11.out.1.below b12, M11.out.2.2.1.below b12, M11.out.2.2.2.belowF b12⟩
    clear b12 M11 hEF
    go_wp2_with fail
    refine Calls.mono (HBY.out _ _ _ _ M12.out.2.2) ?_
    rintro e w' ⟨rfl, hw'⟩
    subst w'
    go_wp2_with fail
    refine Calls.mono (HRB.out _ _ M12.out.2.1) ?_
    rintro e W13 ⟨rfl, b13⟩
    have M13 : Hid (Fr w W13 v1 v2 L) := M12.out.1.below b13
    clear b13 M12
    go_wp2
    go_ret
    exact ⟨rfl, M13.out.bel⟩
end Go.Proofs.YtcckoncgfmbhiaaGreatDoor
