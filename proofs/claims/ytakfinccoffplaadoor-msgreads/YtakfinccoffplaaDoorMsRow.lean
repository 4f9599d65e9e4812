/- A message that comes in. -/
import Derived.Test.YtakfinccoffplaaDoorMsCut
namespace Go.Proofs.YtakfinccoffplaaDoor
open Go.ChangeShapes Go.WideShapes Go.ChangeAt Go.RowKit Go.Deep
set_option linter.unusedVariables false

theorem cellsMsg : Tryd.prog.cellsOf 27 = 9 := by kernel_rfl
theorem cellsB1 : Tryd.prog.cellsOf 4 = 1 := by kernel_rfl
theorem cellsSs : Tryd.prog.cellsOf 22 = 1 := by kernel_rfl
/-- What is known of a message that comes in. -/
structure MsOk (w : World) (m : Mg) (fa : Option Addr) (va : Option Addr) : Prop where
  fr : InRow 1 encS okS ByteArray.empty w fa m.fl.length m.fl
  vr : InRow 2 Vl.cells Vl.ok vl0 w va m.vl.length m.vl
  gs : m.group.size ≤ maxLen
  ps : m.pay.size ≤ maxLen
  kd : i64 m.kind
  pb : i64 m.pub
  sq : i64 m.seq
  hp : i64 m.hops
section
variable {H : Type} {enc' : TypeId × Value → H} {W : World}
set_option maxRecDepth 100000 in
theorem ms_of {n : Nat} {cs : Array Value} {x : DataW H × List MemPlace} (hcs : cs.size = Tryd.prog.cellsOf 27) (h : DataW.trod enc' Tryd.prog W 0 (fun _ => true) true n 27 (Value.agg cs).cells.toList = some x) :
    ∃ (m : Mg) (fa : Option Addr) (fc : Nat) (va : Option Addr) (vc : Nat), cs = #[.int .i64 m.kind, .string m.group, .bool m.any, .slice fa m.fl.length fc, .int .i64 m.pub, .int .i64 m.seq, .int .i64 m.hops, .slice va m.vl.length vc, .string m.pay] ∧ MsOk W m fa va := by
  obtain ⟨xs, k, _, _, hl, hlen, hf⟩ := DataW.trod_struct Tryd.underlying27 h
  rw [cellsMsg] at hcs
  obtain ⟨l⟩ := cs
  match l, hcs with
  | [c0, c1, c2, c3, c4, c5, c6, c7, c8], _ =>
    match xs, hlen with
    | [y0, y1, y2, y3, y4, y5, y6, y7], _ =>
      have f0 := hf 0 _ rfl
      have f1 := hf 1 _ rfl
      have f2 := hf 2 _ rfl
      have f3 := hf 3 _ rfl
      have f4 := hf 4 _ rfl
      have f5 := hf 5 _ rfl
      have f6 := hf 6 _ rfl
      have f7 := hf 7 _ rfl
      simp [cellsI1, cellsS1, cellsB1, cellsSs, cellsEv, Value.cells] at f0 f1 f2 f3 f4 f5 f6 f7
      obtain ⟨kd, e0, _, wk⟩ := DataW.trod_int Tryd.underlying3 f0
      obtain ⟨g, e1, _, wg⟩ := DataW.trod_string Tryd.underlying9 f1
      obtain ⟨any, e2, _⟩ := DataW.trod_bool Tryd.underlying4 f2
      obtain ⟨pb, e4, _, wp⟩ := DataW.trod_int Tryd.underlying3 f4
      obtain ⟨sq, e5, _, wq⟩ := DataW.trod_int Tryd.underlying3 f5
      obtain ⟨hp, e6, _, wh⟩ := DataW.trod_int Tryd.underlying3 f6
      simp at e0 e1 e2 e4 e5 e6
      subst e0 e1 e2 e4 e5 e6
      obtain ⟨fa, fl, fc, rfl⟩ : ∃ a len cap, c3 = .slice a len cap := by
        rcases open_slice Tryd.underlying22 f3 with ⟨hcs, _⟩ | ⟨ad, l, c, m, n, D, Pl, hcs, _⟩
        · simp at hcs; exact ⟨_, _, _, hcs⟩
        · simp at hcs; exact ⟨_, _, _, hcs⟩
      obtain ⟨ft, hft⟩ := inrow_of 1 encS okS ByteArray.empty 22 9 Tryd.underlying22 cellsS1 (by omega) lenS (fun n cs x => str_of n cs x) (a := fa) (len := fl) (cap := fc) (by simpa [Value.cells] using f3)
      obtain ⟨va, vn, vc, vt, pay, e7, hvt, hps⟩ := ev_of (cs := #[c7, c8]) (by rw [cellsEv]; rfl) (by simpa [Value.cells] using f7)
      simp at e7
      obtain ⟨rfl, rfl⟩ := e7
      have q1 := hft.1
      have q2 := hvt.1
      subst q1 q2
      exact ⟨⟨kd, g, any, ft, pb, sq, hp, vt, pay⟩, fa, fc, va, vc, rfl, hft, hvt, wg, hps, bounds_i64 wk, bounds_i64 wp, bounds_i64 wq, bounds_i64 wh⟩
end
end Go.Proofs.YtakfinccoffplaaDoor
