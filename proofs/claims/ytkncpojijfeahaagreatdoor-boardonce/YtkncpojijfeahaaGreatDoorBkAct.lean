/- Calls of wigwaglaw18 that come in. -/
import Derived.Test.YtkncpojijfeahaaGreatDoorBkDue
import Derived.Test.YtkncpojijfeahaaGreatDoorJoinBkBase
namespace Go.Proofs.YtkncpojijfeahaaGreatDoor
open Go.ChangeShapes Go.WideShapes Go.ChangeAt Go.RowKit Go.Deep
set_option linter.unusedVariables false
set_option linter.unnecessarySimpa false

/-- A call of wigwaglaw18's; of its event only that it has two cells. -/
structure Ac18 where
  kind : Int
  pub : Int
  seq : Int
  node : Int
  sub : Int
  text : ByteArray
  ea : Option Addr
  el : Nat
  ec : Nat
  es : ByteArray
def ac180 : Ac18 := ⟨0, 0, 0, 0, 0, ByteArray.empty, none, 0, 0, ByteArray.empty⟩
def Ac18.cells (t : Ac18) : List Value := [.int .i64 t.kind, .int .i64 t.pub, .int .i64 t.seq, .int .i64 t.node, .int .i64 t.sub, .string t.text, .slice t.ea t.el t.ec, .string t.es]
def Ac18.ok (t : Ac18) : Prop := t.text.size ≤ maxLen
theorem lenAc18 (s : Ac18) : s.cells.length = 8 := rfl
theorem cellsAc18 : Tryz.prog.cellsOf 41 = 8 := by kernel_rfl
section
variable {H : Type} {enc' : TypeId × Value → H} {W : World}
set_option maxRecDepth 100000 in
theorem ac18_of (n : Nat) (cs : List Value) (x : DataW H × List MemPlace) (h : DataW.trod enc' Tryz.prog W 0 (fun _ => true) true n 41 cs = some x) : ∃ t : Ac18, cs = t.cells ∧ t.ok := by
  obtain ⟨xs, m, _, _, hl, hlen, hf⟩ := DataW.trod_struct Tryz.underlying41 h
  rw [cellsAc18] at hl
  match cs, hl with
  | [c0, c1, c2, c3, c4, c5, c6, c7], _ =>
    match xs, hlen with
    | [y0, y1, y2, y3, y4, y5, y6], _ =>
      have f0 := hf 0 _ rfl
      have f1 := hf 1 _ rfl
      have f2 := hf 2 _ rfl
      have f3 := hf 3 _ rfl
      have f4 := hf 4 _ rfl
      have f5 := hf 5 _ rfl
      have f6 := hf 6 _ rfl
      simp [cellsI1, cellsS1, cellsEv] at f0 f1 f2 f3 f4 f5 f6
      obtain ⟨k, e0, _, _⟩ := DataW.trod_int Tryz.underlying3 f0
      obtain ⟨p, e1, _, _⟩ := DataW.trod_int Tryz.underlying3 f1
      obtain ⟨q, e2, _, _⟩ := DataW.trod_int Tryz.underlying3 f2
      obtain ⟨u, e3, _, _⟩ := DataW.trod_int Tryz.underlying3 f3
      obtain ⟨v, e4, _, _⟩ := DataW.trod_int Tryz.underlying3 f4
      obtain ⟨s, e5, _, ws⟩ := DataW.trod_string Tryz.underlying9 f5
      simp at e0 e1 e2 e3 e4 e5
      subst e0 e1 e2 e3 e4 e5
      obtain ⟨xs', m', _, _, _, hlen', hf'⟩ := DataW.trod_struct Tryz.underlying27 f6
      match xs', hlen' with
      | [z0, z1], _ =>
        have g0 := hf' 0 _ rfl
        have g1 := hf' 1 _ rfl
        simp [cellsVs, cellsS1] at g0 g1
        obtain ⟨es, h1, _, _⟩ := DataW.trod_string Tryz.underlying9 g1
        simp at h1
        subst h1
        obtain ⟨a, len, cap, rfl⟩ : ∃ a len cap, c6 = .slice a len cap := by
          rcases open_slice Tryz.underlying25 g0 with ⟨hcs, _⟩ | ⟨ad, l, c, m, n, D, Pl, hcs, _⟩
          · simp at hcs; exact ⟨_, _, _, hcs⟩
          · simp at hcs; exact ⟨_, _, _, hcs⟩
        exact ⟨⟨k, p, q, u, v, s, a, len, cap, es⟩, rfl, ws⟩
theorem act18_end : True := trivial
end
abbrev Ac18In (w : World) (a : Option Addr) (len : Nat) (l : List Ac18) : Prop := InRow 8 Ac18.cells Ac18.ok ac180 w a len l
theorem Ac18In.at {w : World} {a : Option Addr} {len : Nat} {l : List Ac18} (h : Ac18In w a len l) {i : Nat} (hi : i < len) :
    ∃ b o, a = some ⟨b, o, none⟩ ∧ b < w.heap.size ∧ (l.getD i ac180).ok ∧ w.cell? ⟨b, o + i * 8, none⟩ = some (.int .i64 (l.getD i ac180).kind) ∧ w.cell? ⟨b, o + i * 8 + 1, none⟩ = some (.int .i64 (l.getD i ac180).pub) ∧ w.cell? ⟨b, o + i * 8 + 2, none⟩ = some (.int .i64 (l.getD i ac180).seq) ∧ w.cell? ⟨b, o + i * 8 + 3, none⟩ = some (.int .i64 (l.getD i ac180).node) ∧ w.cell? ⟨b, o + i * 8 + 4, none⟩ = some (.int .i64 (l.getD i ac180).sub) ∧ w.cell? ⟨b, o + i * 8 + 5, none⟩ = some (.string (l.getD i ac180).text) ∧ w.cell? ⟨b, o + i * 8 + 6, none⟩ = some (.slice (l.getD i ac180).ea (l.getD i ac180).el (l.getD i ac180).ec) ∧ w.cell? ⟨b, o + i * 8 + 7, none⟩ = some (.string (l.getD i ac180).es) := by
  rcases h.2.2 with h0 | ⟨b, o, ha, hlt, hc⟩
  · omega
  · have q := (hc i hi).2
    refine ⟨b, o, ha, hlt, (hc i hi).1, ?_, ?_, ?_, ?_, ?_, ?_, ?_, ?_⟩
    · simpa [Ac18.cells] using q 0 (by omega)
    · simpa [Ac18.cells] using q 1 (by omega)
    · simpa [Ac18.cells] using q 2 (by omega)
    · simpa [Ac18.cells] using q 3 (by omega)
    · simpa [Ac18.cells] using q 4 (by omega)
    · simpa [Ac18.cells] using q 5 (by omega)
    · simpa [Ac18.cells] using q 6 (by omega)
    · simpa [Ac18.cells] using q 7 (by omega)
theorem flat_getW : ∀ (L : List (Int × Int)) (j : Nat), j < L.length → (L.flatMap encW)[j * 2]? = some (.int .i64 (L.getD j (0, 0)).1) ∧ (L.flatMap encW)[j * 2 + 1]? = some (.int .i64 (L.getD j (0, 0)).2)
  | [], j, h => by simp at h
  | x :: L, 0, _ => by simp [encW]
  | x :: L, j + 1, h => by
    have ih := flat_getW L j (by simpa using h)
    have e1 : (j + 1) * 2 = j * 2 + 2 := by omega
    have e2 : (j + 1) * 2 + 1 = (j * 2 + 1) + 2 := by omega
    rw [e2, e1]
    simp only [List.flatMap_cons, encW, List.cons_append, List.nil_append, List.getElem?_cons_succ, List.getD_cons_succ]
    exact ih
theorem WhIn.ofOwn {w : World} {B : Nat} {v : Value} {L : List (Int × Int)} (h : w.ownsRow B 44 2 v L.length (L.flatMap encW)) : WhIn w v L := by
  rcases h.2 with ⟨hv, h0⟩ | ⟨g, cap, cur, hv, hb, hg, hnc, hmx, hsz, hcs⟩
  · exact ⟨none, 0, by rw [hv, h0], by omega, fun hp => by omega⟩
  · refine ⟨_, cap, hv, hnc, fun hp => ⟨g, rfl, lt_of_block hg, fun j hj => ?_⟩⟩
    obtain ⟨h1, h2⟩ := flat_getW L j hj
    rw [← hcs] at h1 h2
    rw [List.getElem?_take_of_lt (by omega)] at h1 h2
    refine ⟨?_, ?_⟩
    · simpa [World.cell?, hg] using h1
    · simpa [World.cell?, hg] using h2
/-- Who is due behind a node's going: those of others. -/
theorem DueL.gone {U : List Bsb} {tk : Bsb → Prop} {L M : List (Int × Int)} {n : Int} (h : DueL U tk L) (h' : DueL (U.filter (fun u => decide (u.key.1 ≠ n))) tk M) : M = L.filter (fun k => decide (k.1 ≠ n)) := by
  refine h'.uniq ⟨h.1.sublist List.filter_sublist, fun k => ?_⟩
  rw [List.mem_filter, h.2]
  constructor
  · rintro ⟨⟨u, hu, rfl, ht⟩, hk⟩
    exact ⟨u, List.mem_filter.2 ⟨hu, hk⟩, rfl, ht⟩
  · rintro ⟨u, hu, rfl, ht⟩
    obtain ⟨hu1, hu2⟩ := List.mem_filter.1 hu
    exact ⟨⟨u, hu1, rfl, ht⟩, hu2⟩
theorem neq_who (a : Int × Int) (w : World) : (binOp .neq 44 (.agg #[.int .i64 a.1, .int .i64 a.2]) (.agg #[.int .i64 a.1, .int .i64 a.2])).run Tryz.prog w = .ok (.bool false) w := by
  have h := eq_who a a w
  simp only [kv2] at h
  simp [binOp, h, Result.andThen]
end Go.Proofs.YtkncpojijfeahaaGreatDoor
