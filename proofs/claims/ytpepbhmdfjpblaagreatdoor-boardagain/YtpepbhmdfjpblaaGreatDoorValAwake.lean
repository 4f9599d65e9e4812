/- wigwaglaw05's schema, and its awake. -/
import Derived.Test.YtpepbhmdfjpblaaGreatDoorValMatch
namespace Go.Proofs.YtpepbhmdfjpblaaGreatDoor
open Go.ChangeShapes Go.WideShapes Go.ChangeAt Go.RowKit
set_option linter.unusedVariables false

theorem blk_cell {w : World} {g j : Nat} {vs : Array Value} {t : TypeId} (h : w.heap[g]? = some (.cells vs t (0, 0))) (hj : j < vs.size) : w.cell? ⟨g, j, none⟩ = some vs[j] := by
  simp [World.cell?, h, hj]
theorem flat_cell {α : Type} (enc : α → List Value) (k : Nat) (hk : ∀ a, (enc a).length = k) (d : α) {w : World} {g : Nat} {t : TypeId} (l : List α) (h : w.heap[g]? = some (.cells (l.flatMap enc).toArray t (0, 0))) (i j : Nat) (hi : i < l.length) (hj : j < k) :
    w.cell? ⟨g, i * k + j, none⟩ = (enc (l.getD i d))[j]? := by
  have hx := flat_get enc k hk d l i j hi hj
  have hlt : i * k + j < (l.flatMap enc).length := by
    rw [flat_len enc k hk]
    have := Nat.mul_le_mul_right k (show i + 1 ≤ l.length by omega)
    rw [Nat.add_mul] at this; omega
  rw [blk_cell h (by simpa using hlt), ← hx]
  simp
theorem AtIn.ofBlock {w : World} {g n c : Nat} {t : TypeId} (az : List At) (hn : n = az.length) (h : w.heap[g]? = some (.cells (az.flatMap At.cells).toArray t (0, 0))) (hc : az.length ≤ c) : AtIn w (.slice (some ⟨g, 0, none⟩) n c) az := by
  refine ⟨_, c, by rw [hn], fun _ => ⟨g, rfl, lt_of_block h, hc, fun j hj => ?_⟩⟩
  have e := fun i hi => flat_cell At.cells 4 At.cells_len at0 az h j i hj hi
  exact ⟨by simpa [At.cells] using e 0 (by omega), by simpa [At.cells] using e 1 (by omega), by simpa [At.cells] using e 2 (by omega), by simpa [At.cells] using e 3 (by omega)⟩
theorem VlIn.ofBlock {w : World} {g n c : Nat} {t : TypeId} (az : List Vl) (hn : n = az.length) (h : w.heap[g]? = some (.cells (az.flatMap Vl.cells).toArray t (0, 0))) (hc : az.length ≤ c) : VlIn w (.slice (some ⟨g, 0, none⟩) n c) az := by
  refine ⟨_, c, by rw [hn], fun _ => ⟨g, rfl, lt_of_block h, hc, fun j hj => ?_⟩⟩
  have e := fun i hi => flat_cell Vl.cells 2 Vl.cells_len vl0 az h j i hj hi
  exact ⟨by simpa [Vl.cells] using e 0 (by omega), by simpa [Vl.cells] using e 1 (by omega)⟩
theorem PdIn.ofBlock {w : World} {g n c : Nat} {t : TypeId} (az : List Pd) (hn : n = az.length) (h : w.heap[g]? = some (.cells (az.flatMap Pd.cells).toArray t (0, 0))) (hc : az.length ≤ c) : PdIn w (.slice (some ⟨g, 0, none⟩) n c) az := by
  refine ⟨_, c, by rw [hn], fun _ => ⟨g, rfl, lt_of_block h, hc, fun j hj => ?_⟩⟩
  have e := fun i hi => flat_cell Pd.cells 5 Pd.cells_len pd0 az h j i hj hi
  exact ⟨by simpa [Pd.cells] using e 0 (by omega), by simpa [Pd.cells] using e 1 (by omega), by simpa [Pd.cells] using e 2 (by omega), by simpa [Pd.cells] using e 3 (by omega), by simpa [Pd.cells] using e 4 (by omega)⟩

abbrev sPrice : ByteArray := ⟨#[112, 114, 105, 99, 101]⟩
abbrev sTag : ByteArray := ⟨#[116, 97, 103]⟩
def sAz : List At := [⟨sPrice, 1, 0, 99⟩, ⟨sTag, 2, 0, 0⟩]
theorem price_ok : NameOk sPrice := ⟨by decide, by decide, by decide +kernel, by decide +kernel, by decide +kernel⟩
theorem tag_ok : NameOk sTag := ⟨by decide, by decide, by decide +kernel, by decide +kernel, by decide +kernel⟩
theorem price_ne_tag : sPrice ≠ sTag := fun h => by
  have : sPrice.data.size = sTag.data.size := by rw [h]
  simp at this
theorem sAz_ok : SchemaOk sAz := by
  refine ⟨by decide, by decide, fun i hi => ?_⟩
  have hi : i < 2 := hi
  rcases (show i = 0 ∨ i = 1 by omega) with rfl | rfl
  · exact ⟨⟨price_ok, .inl ⟨rfl, by decide, by decide, by decide⟩⟩, fun j hj => by omega⟩
  · refine ⟨⟨tag_ok, .inr ⟨rfl, rfl, rfl⟩⟩, fun j hj => ?_⟩
    obtain rfl : j = 0 := by omega
    exact price_ne_tag
theorem s_price : FindAt sAz sPrice 0 := ⟨by decide, rfl, fun j hj => by omega⟩
theorem s_tag : FindAt sAz sTag 1 := by
  refine ⟨by decide, rfl, fun j hj => ?_⟩
  obtain rfl : j = 0 := by omega
  exact price_ne_tag
theorem s_filter1 {p : Pd} {k : Nat} (h : FindAt sAz p.name k) : FilterOk sAz [p] ↔ PredOk (sAz.getD k at0) p := by
  constructor
  · intro hh
    obtain ⟨_, l, h1, h2⟩ := hh.2.2 0 (by simp)
    have h1 : FindAt sAz p.name l := h1
    rw [h.uniq h1]; exact h2
  · intro hh
    refine ⟨by simp, by simp, fun i hi => ?_⟩
    obtain rfl : i = 0 := by simp at hi; omega
    exact ⟨fun j hj => by omega, k, h, hh⟩
theorem s_match1 {p : Pd} {k : Nat} {vs : List Vl} {n : Nat} (h : FindAt sAz p.name k) : MatchOk sAz [p] vs n ↔ PredOk (sAz.getD k at0) p ∧ EventOk sAz vs n ∧ Takes p (vs.getD k vl0) := by
  constructor
  · intro hh
    obtain ⟨l, h1, h2⟩ := hh.2.2 0 (by simp)
    have h1 : FindAt sAz p.name l := h1
    exact ⟨(s_filter1 h).mp hh.1, hh.2.1, by rw [h.uniq h1]; exact h2⟩
  · intro hh
    refine ⟨(s_filter1 h).mpr hh.1, hh.2.1, fun i hi => ?_⟩
    obtain rfl : i = 0 := by simp at hi; omega
    exact ⟨k, h, hh.2.2⟩
theorem s_event {n : Int} {t : ByteArray} (h0 : 0 ≤ n) (h1 : n ≤ 99) (ht : StrOk t) : EventOk sAz [⟨n, ByteArray.empty⟩, ⟨0, t⟩] 0 := by
  refine ⟨rfl, by decide, fun i hi => ?_⟩
  have hi : i < 2 := hi
  rcases (show i = 0 ∨ i = 1 by omega) with rfl | rfl
  · exact .inl ⟨rfl, h0, h1, rfl⟩
  · exact .inr ⟨rfl, ht, rfl⟩
theorem s_range {lo hi n : Int} {t : ByteArray} (h0 : 0 ≤ n) (h1 : n ≤ 99) (ht : StrOk t) (l0 : 0 ≤ lo) (l1 : lo ≤ hi) (l2 : hi ≤ 99) : MatchOk sAz [⟨sPrice, 1, lo, hi, ByteArray.empty⟩] [⟨n, ByteArray.empty⟩, ⟨0, t⟩] 0 ↔ (lo ≤ n ∧ n ≤ hi) := by
  rw [s_match1 (k := 0) s_price]
  exact ⟨fun h => takes_1.mp h.2.2, fun h => ⟨.inl ⟨rfl, rfl, l0, l1, l2, rfl⟩, s_event h0 h1 ht, takes_1.mpr h⟩⟩
theorem s_eq {n : Int} {t u : ByteArray} (h0 : 0 ≤ n) (h1 : n ≤ 99) (ht : StrOk t) (hu : StrOk u) : MatchOk sAz [⟨sTag, 2, 0, 0, t⟩] [⟨n, ByteArray.empty⟩, ⟨0, u⟩] 0 ↔ u = t := by
  rw [s_match1 (k := 1) s_tag]
  exact ⟨fun h => takes_2.mp h.2.2, fun h => ⟨.inr ⟨.inl rfl, rfl, ht, rfl, rfl⟩, s_event h0 h1 hu, takes_2.mpr h⟩⟩
theorem s_pre {n : Int} {t u : ByteArray} (h0 : 0 ≤ n) (h1 : n ≤ 99) (ht : StrOk t) (hu : StrOk u) (hne : t ≠ ByteArray.empty) : MatchOk sAz [⟨sTag, 3, 0, 0, t⟩] [⟨n, ByteArray.empty⟩, ⟨0, u⟩] 0 ↔ t.data.toList <+: u.data.toList := by
  rw [s_match1 (k := 1) s_tag]
  exact ⟨fun h => (takes_3 (by decide) (by decide)).mp h.2.2, fun h => ⟨.inr ⟨.inr ⟨rfl, hne⟩, rfl, ht, rfl, rfl⟩, s_event h0 h1 hu, (takes_3 (by decide) (by decide)).mpr h⟩⟩

theorem new_at {w : World} {o : Obj} {b : Nat} (hb : b = w.heap.size) : (w.alloc o).heap[b]? = some o := by rw [hb]; exact heap_alloc_new w o
theorem cell_at {w : World} {vs : Array Value} {t : TypeId} {b j : Nat} (hb : b = w.heap.size) (hj : j < vs.size) : (w.alloc (.cells vs t)).cell? ⟨b, j, none⟩ = some vs[j] := blk_cell (new_at hb) hj
theorem one_pd (w : World) (p : Pd) (b : Nat) (hb : b = w.heap.size) : PdIn (w.alloc (.cells #[.string p.name, .int .i64 p.op, .int .i64 p.lo, .int .i64 p.hi, .string p.str] 148)) (.slice (some ⟨b, 0, none⟩) 1 1) [p] :=
  PdIn.ofBlock [p] rfl (new_at hb) (by simp)
theorem two_vl (w : World) (p q : Vl) (b : Nat) (hb : b = w.heap.size) : VlIn (w.alloc (.cells #[.int .i64 p.num, .string p.str, .int .i64 q.num, .string q.str] 87)) (.slice (some ⟨b, 0, none⟩) 2 2) [p, q] :=
  VlIn.ofBlock [p, q] rfl (new_at hb) (by simp)
theorem sz_pd {p : Pd} (h : p.str.size ≤ maxLen) : ∀ i, i < [p].length → ([p].getD i pd0).str.size ≤ maxLen := fun i hi => by
  obtain rfl : i = 0 := by simp at hi; omega
  exact h
theorem sz_vl {n : Int} {t : ByteArray} (h : t.size ≤ maxLen) : ∀ i, i < [(⟨n, ByteArray.empty⟩ : Vl), ⟨0, t⟩].length → ([(⟨n, ByteArray.empty⟩ : Vl), ⟨0, t⟩].getD i vl0).str.size ≤ maxLen := fun i hi => by
  have hi : i < 2 := hi
  rcases (show i = 0 ∨ i = 1 by omega) with rfl | rfl
  · exact Nat.zero_le _
  · exact h

/-- An event of a number and a text lies in a box of its own. -/
structure EvAt (w : World) (b g : Nat) (n : Int) (t : ByteArray) : Prop where
  c0 : w.cell? ⟨b, 0, none⟩ = some (.slice (some ⟨g, 0, none⟩) 2 2)
  c1 : w.cell? ⟨b, 1, none⟩ = some (.string ⟨#[]⟩)
  lt : b < w.heap.size
  vl : VlIn w (.slice (some ⟨g, 0, none⟩) 2 2) [⟨n, ByteArray.empty⟩, ⟨0, t⟩]
theorem EvAt.below {w w' : World} {b g : Nat} {n : Int} {t : ByteArray} (h : EvAt w b g n t) (hb : Below w.heap.size w w') : EvAt w' b g n t :=
  ⟨cell_grown h.c0 hb, cell_grown h.c1 hb, Nat.lt_of_lt_of_le h.lt hb.size, h.vl.below hb⟩
theorem EvAt.new (w : World) (n : Int) (t : ByteArray) : EvAt ((w.alloc (.cells #[.int .i64 n, .string ⟨#[]⟩, .int .i64 0, .string t] 87)).alloc (.cells #[.slice (some ⟨w.heap.size, 0, none⟩) 2 2, .string ⟨#[]⟩] 44)) (w.heap.size + 1) w.heap.size n t :=
  ⟨cell_at (j := 0) (by simp) (by simp), cell_at (j := 1) (by simp) (by simp), by simp, (two_vl w ⟨n, ByteArray.empty⟩ ⟨0, t⟩ _ rfl).below (below1 _ _)⟩

def kAbc : ByteArray := ⟨#[97, 98, 99]⟩
def kB : ByteArray := ⟨#[98]⟩
def kA : ByteArray := ⟨#[97]⟩
def kPs : List Pd := [⟨sPrice, 1, 3, 9, ByteArray.empty⟩, ⟨sTag, 3, 0, 0, kA⟩]
theorem kA_ok : StrOk kA := ⟨by decide +kernel, by decide⟩
theorem kB_ok : StrOk kB := ⟨by decide +kernel, by decide⟩
theorem kAbc_ok : StrOk kAbc := ⟨by decide +kernel, by decide⟩
theorem kA_ne : kA ≠ ByteArray.empty := fun h => by
  have : kA.data.size = ByteArray.empty.data.size := by rw [h]
  simp [kA] at this
theorem kPs_ok : FilterOk sAz kPs := by
  refine ⟨by decide, by decide, fun i hi => ?_⟩
  have hi : i < 2 := hi
  rcases (show i = 0 ∨ i = 1 by omega) with rfl | rfl
  · exact ⟨fun j hj => by omega, 0, s_price, .inl ⟨rfl, rfl, by decide, by decide, by decide, rfl⟩⟩
  · refine ⟨fun j hj => ?_, 1, s_tag, .inr ⟨.inr ⟨rfl, kA_ne⟩, rfl, kA_ok, rfl, rfl⟩⟩
    obtain rfl : j = 0 := by omega
    exact price_ne_tag
theorem k_yes : MatchOk sAz kPs [⟨5, ByteArray.empty⟩, ⟨0, kAbc⟩] 0 := by
  refine ⟨kPs_ok, s_event (by decide) (by decide) kAbc_ok, fun i hi => ?_⟩
  have hi : i < 2 := hi
  rcases (show i = 0 ∨ i = 1 by omega) with rfl | rfl
  · exact ⟨0, s_price, takes_1.mpr ⟨by decide, by decide⟩⟩
  · exact ⟨1, s_tag, (takes_3 (by decide) (by decide)).mpr ⟨[98, 99], rfl⟩⟩
theorem k_no : ¬ MatchOk sAz kPs [⟨5, ByteArray.empty⟩, ⟨0, kB⟩] 0 := fun h => by
  obtain ⟨l, h1, h2⟩ := h.2.2 1 (by decide)
  have h1 : FindAt sAz sTag l := h1
  rw [← s_tag.uniq h1] at h2
  have h3 : kA.data.toList <+: kB.data.toList := (takes_3 (by decide) (by decide)).mp h2
  obtain ⟨t, ht⟩ := h3
  simp [kA, kB] at ht

end Go.Proofs.YtpepbhmdfjpblaaGreatDoor
